import Derived.Test.YtbfefnfmdkgfjaaTD
import Derived.Test.YtbfefnfmdkgfjaaTE
set_option linter.unusedVariables false
set_option linter.unusedSimpArgs false
set_option linter.unusedSectionVars false
set_option linter.unnecessarySimpa false
namespace Go.Proofs.Ytbfefnfmdkgfjaa
open Go.Ev Go.RowKit
set_option maxRecDepth 100000
set_option maxHeartbeats 8000000
set_option linter.all false
noncomputable section
def axial_x7_0 : LExit := ⟨some 2, [.cgrow 3 0 1, .cgrow 3 1 1], (7 :: (8 :: (List.range' 19 25)))⟩
def axial_x7_1 : LExit := ⟨some 2, [.cnil 3 0, .cgrow 3 1 1], (7 :: (8 :: (List.range' 19 25)))⟩
def axial_x7_2 : LExit := ⟨some 2, [.cgrow 3 0 1, .cnil 3 1], (7 :: (8 :: (List.range' 19 25)))⟩
def axial_x7_3 : LExit := ⟨some 2, [.cnil 3 0, .cnil 3 1], (7 :: (8 :: (List.range' 19 25)))⟩
def axial_sp : List LSpec := [⟨44, 7, [axial_x7_0, axial_x7_1, axial_x7_2, axial_x7_3]⟩]
def axial_L7_4_E (ka : Nat) (ca : List D) (kb : Nat) (cb : List D) (x0 : Nat) (x1 : List D) : List AV × AHeap := ([.agg [.dsl 0, .dsl 1], .ptr 2 0, .ptr 3 0, .ptr 4 0, .dsl 5, .pure (.int .i64 (1 : Int)), .dsl 1, .any 8, .any 9, .agg [.dsl 0, .dsl 1], .dsl 5, .agg [.dsl 0, .dsl 1], .agg [.dsl 0, .dsl 1], .pure (.int .i64 (1 : Int)), .pure (.bool true), .pure (.int .i64 (1 : Int)), .dsl 1, .dsl 1, .pure (.int .i64 (kb : Int)), .pure (.int .i64 (0 : Int)), .any 11, .any 12, .any 13, .any 14, .any 15, .any 16, .any 17, .any 18, .any 19, .any 20, .any 21, .any 22, .any 23, .any 24, .any 25, .any 26, .any 27, .any 28, .any 29, .any 30, .any 31, .any 32, .any 33, .any 34, .pure (.int .i64 (1 : Int)), .pure (.tuple #[])], [(7, { cells := [.dsl 0, .dsl 1], opn := none, kind := .cells }), (6, { cells := [.dsl 0, .dsl 1], opn := none, kind := .cells }), (5, { cells := [], opn := none, kind := .deep x0 x1 }), (4, { cells := [.pure (.slice none 0 0), .pure (.slice none 0 0)], opn := none, kind := .cells }), (3, { cells := [.pure (.slice none 0 0), .pure (.slice none 0 0)], opn := none, kind := .cells }), (2, { cells := [.dsl 0, .dsl 1], opn := none, kind := .cells }), (1, { cells := [], opn := none, kind := .deep kb cb }), (0, { cells := [], opn := none, kind := .deep ka ca })])
def axial_L7_4_A : LoopAt := ⟨44, loopAt Try.prog 44 1, 37, 66, 4, noFrame⟩
theorem axial_L7_4_ok : (axial_L7_4_A).OK := ⟨by show 37 ≤ 66; decide, by show 4 ≤ 37; decide, by kernel_rfl, rfl⟩
def axial_L7_4_gs (ka : Nat) (ca : List D) (kb : Nat) (cb : List D) (x0 : Nat) (x1 : List D) : Go.Ev.Rd → Option GS
  | .next 0 ds => ghost [.val 19, .cgrow 3 0 1, .cgrow 3 1 1] (7 :: (8 :: (List.range' 20 24))) (axial_L7_4_E ka ca kb cb x0 x1).1 (axial_L7_4_E ka ca kb cb x0 x1).2 37 ds
  | .next 1 ds => ghost [.val 19, .cnil 3 0, .cgrow 3 1 1] (7 :: (8 :: (List.range' 20 24))) (axial_L7_4_E ka ca kb cb x0 x1).1 (axial_L7_4_E ka ca kb cb x0 x1).2 37 ds
  | .next 2 ds => ghost [.val 19, .cgrow 3 0 1, .cnil 3 1] (7 :: (8 :: (List.range' 20 24))) (axial_L7_4_E ka ca kb cb x0 x1).1 (axial_L7_4_E ka ca kb cb x0 x1).2 37 ds
  | .next 3 ds => ghost [.val 19, .cnil 3 0, .cnil 3 1] (7 :: (8 :: (List.range' 20 24))) (axial_L7_4_E ka ca kb cb x0 x1).1 (axial_L7_4_E ka ca kb cb x0 x1).2 37 ds
  | .out 0 ds => ghost axial_x7_0.live axial_x7_0.junk (axial_L7_4_E ka ca kb cb x0 x1).1 (axial_L7_4_E ka ca kb cb x0 x1).2 37 ds
  | .out 1 ds => ghost axial_x7_1.live axial_x7_1.junk (axial_L7_4_E ka ca kb cb x0 x1).1 (axial_L7_4_E ka ca kb cb x0 x1).2 37 ds
  | .out 2 ds => ghost axial_x7_2.live axial_x7_2.junk (axial_L7_4_E ka ca kb cb x0 x1).1 (axial_L7_4_E ka ca kb cb x0 x1).2 37 ds
  | .out 3 ds => ghost axial_x7_3.live axial_x7_3.junk (axial_L7_4_E ka ca kb cb x0 x1).1 (axial_L7_4_E ka ca kb cb x0 x1).2 37 ds
  | _ => none
def axial_L7_4_ex : Nat → Option Nat
  | 0 => axial_x7_0.ex
  | 1 => axial_x7_1.ex
  | 2 => axial_x7_2.ex
  | 3 => axial_x7_3.ex
  | _ => none
def axial_L7_4_ax : Go.Ev.Rd → AX
  | .next _ _ => .normal
  | .out j _ => axOf (axial_L7_4_ex j)
def axial_L7_4_S0 (ka : Nat) (ca : List D) (kb : Nat) (cb : List D) (x0 : Nat) (x1 : List D) (ds : List D) : Option Go.Ev.Rd := pullD (α := Int × Nat × (List D) × Nat × (List D)) (some (.tup ds)) (fun d => ((D.vi (D.at d 0)), (D.ln (D.at d 1)), (D.lc (D.at d 1)), (D.ln (D.at d 2)), (D.lc (D.at d 2)))) (fun (s19, s3_0n, s3_0c, s3_1n, s3_1c) => .tup [iD s19, .list s3_0n s3_0c, .list s3_1n s3_1c]) fun (s19, s3_0n, s3_0c, s3_1n, s3_1c) => ((if s19 < (kb : Int) then guardP ((0 : Int) ≤ s19 ∧ s19.toNat < kb) (pullD (α := Int) (readD cb (s19.toNat * 1) 1 false) (fun d => ((D.vi d))) (fun v0 => iD v0) fun v0 => (guardP ((0 : Int) ≤ s19 ∧ s19.toNat < x0) (pullD (α := Int) (readD x1 (s19.toNat * 1) 1 false) (fun d => ((D.vi d))) (fun v1 => iD v1) fun v1 => (guardP ((0 : Int) ≤ IntKind.i64.wrap (s19 + (1 : Int)) ∧ (IntKind.i64.wrap (s19 + (1 : Int))).toNat < x0) (pullD (α := Int) (readD x1 ((IntKind.i64.wrap (s19 + (1 : Int))).toNat * 1) 1 false) (fun d => ((D.vi d))) (fun v2 => iD v2) fun v2 => (guardP ((∀ (u : D), u ∈ [dCell (.int .i64 (IntKind.i64.wrap (v0 * IntKind.i64.wrap (v1 + v2))))] → cellD u) ∧ s3_1n * 1 ≤ s3_1c.length ∧ (s3_1n + (0 + 1)) * 8 ≤ 140737488355328 ∧ s3_1n + (0 + 1) ≤ 4611686018427387904) (some (.next 0 [iD (IntKind.i64.wrap (s19 + (1 : Int))), .list s3_0n s3_0c, .list (s3_1n + (0 + 1)) (List.append (List.take (s3_1n * 1) s3_1c) [dCell (.int .i64 (IntKind.i64.wrap (v0 * IntKind.i64.wrap (v1 + v2))))])])))))))) else some (.out 0 [.list s3_0n s3_0c, .list s3_1n s3_1c])))
def axial_L7_4_S1 (ka : Nat) (ca : List D) (kb : Nat) (cb : List D) (x0 : Nat) (x1 : List D) (ds : List D) : Option Go.Ev.Rd := pullD (α := Int × Nat × (List D)) (some (.tup ds)) (fun d => ((D.vi (D.at d 0)), (D.ln (D.at d 2)), (D.lc (D.at d 2)))) (fun (s19, s3_1n, s3_1c) => .tup [iD s19, .one (.tuple #[]), .list s3_1n s3_1c]) fun (s19, s3_1n, s3_1c) => ((if s19 < (kb : Int) then guardP ((0 : Int) ≤ s19 ∧ s19.toNat < kb) (pullD (α := Int) (readD cb (s19.toNat * 1) 1 false) (fun d => ((D.vi d))) (fun v0 => iD v0) fun v0 => (guardP ((0 : Int) ≤ s19 ∧ s19.toNat < x0) (pullD (α := Int) (readD x1 (s19.toNat * 1) 1 false) (fun d => ((D.vi d))) (fun v1 => iD v1) fun v1 => (guardP ((0 : Int) ≤ IntKind.i64.wrap (s19 + (1 : Int)) ∧ (IntKind.i64.wrap (s19 + (1 : Int))).toNat < x0) (pullD (α := Int) (readD x1 ((IntKind.i64.wrap (s19 + (1 : Int))).toNat * 1) 1 false) (fun d => ((D.vi d))) (fun v2 => iD v2) fun v2 => (guardP ((∀ (u : D), u ∈ [dCell (.int .i64 (IntKind.i64.wrap (v0 * IntKind.i64.wrap (v1 + v2))))] → cellD u) ∧ s3_1n * 1 ≤ s3_1c.length ∧ (s3_1n + (0 + 1)) * 8 ≤ 140737488355328 ∧ s3_1n + (0 + 1) ≤ 4611686018427387904) (some (.next 1 [iD (IntKind.i64.wrap (s19 + (1 : Int))), .one (.tuple #[]), .list (s3_1n + (0 + 1)) (List.append (List.take (s3_1n * 1) s3_1c) [dCell (.int .i64 (IntKind.i64.wrap (v0 * IntKind.i64.wrap (v1 + v2))))])])))))))) else some (.out 1 [.one (.tuple #[]), .list s3_1n s3_1c])))
def axial_L7_4_S2 (ka : Nat) (ca : List D) (kb : Nat) (cb : List D) (x0 : Nat) (x1 : List D) (ds : List D) : Option Go.Ev.Rd := pullD (α := Int × Nat × (List D)) (some (.tup ds)) (fun d => ((D.vi (D.at d 0)), (D.ln (D.at d 1)), (D.lc (D.at d 1)))) (fun (s19, s3_0n, s3_0c) => .tup [iD s19, .list s3_0n s3_0c, .one (.tuple #[])]) fun (s19, s3_0n, s3_0c) => ((if s19 < (kb : Int) then guardP ((0 : Int) ≤ s19 ∧ s19.toNat < kb) (pullD (α := Int) (readD cb (s19.toNat * 1) 1 false) (fun d => ((D.vi d))) (fun v0 => iD v0) fun v0 => (guardP ((0 : Int) ≤ s19 ∧ s19.toNat < x0) (pullD (α := Int) (readD x1 (s19.toNat * 1) 1 false) (fun d => ((D.vi d))) (fun v1 => iD v1) fun v1 => (guardP ((0 : Int) ≤ IntKind.i64.wrap (s19 + (1 : Int)) ∧ (IntKind.i64.wrap (s19 + (1 : Int))).toNat < x0) (pullD (α := Int) (readD x1 ((IntKind.i64.wrap (s19 + (1 : Int))).toNat * 1) 1 false) (fun d => ((D.vi d))) (fun v2 => iD v2) fun v2 => (some (.next 0 [iD (IntKind.i64.wrap (s19 + (1 : Int))), .list s3_0n s3_0c, .list 1 [iD (IntKind.i64.wrap (v0 * IntKind.i64.wrap (v1 + v2)))]]))))))) else some (.out 2 [.list s3_0n s3_0c, .one (.tuple #[])])))
def axial_L7_4_S3 (ka : Nat) (ca : List D) (kb : Nat) (cb : List D) (x0 : Nat) (x1 : List D) (ds : List D) : Option Go.Ev.Rd := pullD (α := Int) (some (.tup ds)) (fun d => ((D.vi (D.at d 0)))) (fun s19 => .tup [iD s19, .one (.tuple #[]), .one (.tuple #[])]) fun s19 => ((if s19 < (kb : Int) then guardP ((0 : Int) ≤ s19 ∧ s19.toNat < kb) (pullD (α := Int) (readD cb (s19.toNat * 1) 1 false) (fun d => ((D.vi d))) (fun v0 => iD v0) fun v0 => (guardP ((0 : Int) ≤ s19 ∧ s19.toNat < x0) (pullD (α := Int) (readD x1 (s19.toNat * 1) 1 false) (fun d => ((D.vi d))) (fun v1 => iD v1) fun v1 => (guardP ((0 : Int) ≤ IntKind.i64.wrap (s19 + (1 : Int)) ∧ (IntKind.i64.wrap (s19 + (1 : Int))).toNat < x0) (pullD (α := Int) (readD x1 ((IntKind.i64.wrap (s19 + (1 : Int))).toNat * 1) 1 false) (fun d => ((D.vi d))) (fun v2 => iD v2) fun v2 => (some (.next 1 [iD (IntKind.i64.wrap (s19 + (1 : Int))), .one (.tuple #[]), .list 1 [iD (IntKind.i64.wrap (v0 * IntKind.i64.wrap (v1 + v2)))]]))))))) else some (.out 3 [.one (.tuple #[]), .one (.tuple #[])])))
def axial_L7_4_S (ka : Nat) (ca : List D) (kb : Nat) (cb : List D) (x0 : Nat) (x1 : List D) : Go.Ev.Rd → Option Go.Ev.Rd
  | .next 0 ds => axial_L7_4_S0 ka ca kb cb x0 x1 ds
  | .next 1 ds => axial_L7_4_S1 ka ca kb cb x0 x1 ds
  | .next 2 ds => axial_L7_4_S2 ka ca kb cb x0 x1 ds
  | .next 3 ds => axial_L7_4_S3 ka ca kb cb x0 x1 ds
  | _ => none
theorem axial_L7_4_S_ok (ka : Nat) (ca : List D) (kb : Nat) (cb : List D) (x0 : Nat) (x1 : List D) : ∀ s_ t_, axial_L7_4_S ka ca kb cb x0 x1 s_ = some t_ → Step (ctx [44, 67] axial_sp) Tabs axial_L7_4_A (stateOf (axial_L7_4_gs ka ca kb cb x0 x1 s_)) (stateOf (axial_L7_4_gs ka ca kb cb x0 x1 t_)) (axial_L7_4_ax t_) ∧ EndOK axial_L7_4_A.nx axial_L7_4_A.low (axial_L7_4_gs ka ca kb cb x0 x1) t_
  | .next 0 ds, t_, h => by
    have h_ : axial_L7_4_S0 ka ca kb cb x0 x1 ds = some t_ := h
    clear h
    unfold axial_L7_4_S0 at h_
    obtain ⟨⟨s19, s3_0n, s3_0c, s3_1n, s3_1c⟩, e0, h0⟩ := pullD_elim h_
    clear h_
    obtain rfl := tup_inj e0
    by_cases b1_ : s19 < (kb : Int)
    · have h2_ := (if_pos b1_).symm.trans h0
      obtain ⟨f3_, h4_⟩ := guardP_elim h2_
      obtain ⟨v0, f5_, h6_⟩ := pullD_elim h4_
      replace f5_ := readD_elim f5_
      obtain ⟨f7_, h8_⟩ := guardP_elim h6_
      obtain ⟨v1, f9_, h10_⟩ := pullD_elim h8_
      replace f9_ := readD_elim f9_
      obtain ⟨f11_, h12_⟩ := guardP_elim h10_
      obtain ⟨v2, f13_, h14_⟩ := pullD_elim h12_
      replace f13_ := readD_elim f13_
      obtain ⟨f15_, h16_⟩ := guardP_elim h14_
      obtain rfl := Option.some.inj h16_
      exact ⟨step_pc 3000 (bT 1 []) [iD v0, iD v1, iD v2] [c_d b1_, c_f f3_, c_f f5_, c_f f7_, c_f f9_, c_f f11_, c_f f13_, c_f f15_] [] _ rfl (by kernel_rfl) (by kernel_rfl) (by kernel_rfl) (by kernel_rfl) (by kernel_rfl) (by kernel_rfl), trivial⟩
    have h2_ := (if_neg b1_).symm.trans h0
    obtain rfl := Option.some.inj h2_
    exact ⟨step_pc 3000 (bF 1 []) [] [c_n b1_] [] _ rfl (by kernel_rfl) (by kernel_rfl) (by kernel_rfl) (by kernel_rfl) (by kernel_rfl) (by kernel_rfl), by kernel_rfl, by kernel_rfl⟩
  | .next 1 ds, t_, h => by
    have h_ : axial_L7_4_S1 ka ca kb cb x0 x1 ds = some t_ := h
    clear h
    unfold axial_L7_4_S1 at h_
    obtain ⟨⟨s19, s3_1n, s3_1c⟩, e0, h0⟩ := pullD_elim h_
    clear h_
    obtain rfl := tup_inj e0
    by_cases b1_ : s19 < (kb : Int)
    · have h2_ := (if_pos b1_).symm.trans h0
      obtain ⟨f3_, h4_⟩ := guardP_elim h2_
      obtain ⟨v0, f5_, h6_⟩ := pullD_elim h4_
      replace f5_ := readD_elim f5_
      obtain ⟨f7_, h8_⟩ := guardP_elim h6_
      obtain ⟨v1, f9_, h10_⟩ := pullD_elim h8_
      replace f9_ := readD_elim f9_
      obtain ⟨f11_, h12_⟩ := guardP_elim h10_
      obtain ⟨v2, f13_, h14_⟩ := pullD_elim h12_
      replace f13_ := readD_elim f13_
      obtain ⟨f15_, h16_⟩ := guardP_elim h14_
      obtain rfl := Option.some.inj h16_
      exact ⟨step_pc 3000 (bT 1 []) [iD v0, iD v1, iD v2] [c_d b1_, c_f f3_, c_f f5_, c_f f7_, c_f f9_, c_f f11_, c_f f13_, c_f f15_] [] _ rfl (by kernel_rfl) (by kernel_rfl) (by kernel_rfl) (by kernel_rfl) (by kernel_rfl) (by kernel_rfl), trivial⟩
    have h2_ := (if_neg b1_).symm.trans h0
    obtain rfl := Option.some.inj h2_
    exact ⟨step_pc 3000 (bF 1 []) [] [c_n b1_] [] _ rfl (by kernel_rfl) (by kernel_rfl) (by kernel_rfl) (by kernel_rfl) (by kernel_rfl) (by kernel_rfl), by kernel_rfl, by kernel_rfl⟩
  | .next 2 ds, t_, h => by
    have h_ : axial_L7_4_S2 ka ca kb cb x0 x1 ds = some t_ := h
    clear h
    unfold axial_L7_4_S2 at h_
    obtain ⟨⟨s19, s3_0n, s3_0c⟩, e0, h0⟩ := pullD_elim h_
    clear h_
    obtain rfl := tup_inj e0
    by_cases b1_ : s19 < (kb : Int)
    · have h2_ := (if_pos b1_).symm.trans h0
      obtain ⟨f3_, h4_⟩ := guardP_elim h2_
      obtain ⟨v0, f5_, h6_⟩ := pullD_elim h4_
      replace f5_ := readD_elim f5_
      obtain ⟨f7_, h8_⟩ := guardP_elim h6_
      obtain ⟨v1, f9_, h10_⟩ := pullD_elim h8_
      replace f9_ := readD_elim f9_
      obtain ⟨f11_, h12_⟩ := guardP_elim h10_
      obtain ⟨v2, f13_, h14_⟩ := pullD_elim h12_
      replace f13_ := readD_elim f13_
      obtain rfl := Option.some.inj h14_
      exact ⟨step_pc 3000 (bT 1 []) [iD v0, iD v1, iD v2] [c_d b1_, c_f f3_, c_f f5_, c_f f7_, c_f f9_, c_f f11_, c_f f13_, ⟨fact (0 < 0 + 1 ∧ (0 + 1) * 8 ≤ 140737488355328 ∧ 0 + 1 ≤ 4611686018427387904), true, fact_mk (by decide)⟩] [] _ rfl (by kernel_rfl) (by kernel_rfl) (by kernel_rfl) (by kernel_rfl) (by kernel_rfl) (by kernel_rfl), trivial⟩
    have h2_ := (if_neg b1_).symm.trans h0
    obtain rfl := Option.some.inj h2_
    exact ⟨step_pc 3000 (bF 1 []) [] [c_n b1_] [] _ rfl (by kernel_rfl) (by kernel_rfl) (by kernel_rfl) (by kernel_rfl) (by kernel_rfl) (by kernel_rfl), by kernel_rfl, by kernel_rfl⟩
  | .next 3 ds, t_, h => by
    have h_ : axial_L7_4_S3 ka ca kb cb x0 x1 ds = some t_ := h
    clear h
    unfold axial_L7_4_S3 at h_
    obtain ⟨s19, e0, h0⟩ := pullD_elim h_
    clear h_
    obtain rfl := tup_inj e0
    by_cases b1_ : s19 < (kb : Int)
    · have h2_ := (if_pos b1_).symm.trans h0
      obtain ⟨f3_, h4_⟩ := guardP_elim h2_
      obtain ⟨v0, f5_, h6_⟩ := pullD_elim h4_
      replace f5_ := readD_elim f5_
      obtain ⟨f7_, h8_⟩ := guardP_elim h6_
      obtain ⟨v1, f9_, h10_⟩ := pullD_elim h8_
      replace f9_ := readD_elim f9_
      obtain ⟨f11_, h12_⟩ := guardP_elim h10_
      obtain ⟨v2, f13_, h14_⟩ := pullD_elim h12_
      replace f13_ := readD_elim f13_
      obtain rfl := Option.some.inj h14_
      exact ⟨step_pc 3000 (bT 1 []) [iD v0, iD v1, iD v2] [c_d b1_, c_f f3_, c_f f5_, c_f f7_, c_f f9_, c_f f11_, c_f f13_, ⟨fact (0 < 0 + 1 ∧ (0 + 1) * 8 ≤ 140737488355328 ∧ 0 + 1 ≤ 4611686018427387904), true, fact_mk (by decide)⟩] [] _ rfl (by kernel_rfl) (by kernel_rfl) (by kernel_rfl) (by kernel_rfl) (by kernel_rfl) (by kernel_rfl), trivial⟩
    have h2_ := (if_neg b1_).symm.trans h0
    obtain rfl := Option.some.inj h2_
    exact ⟨step_pc 3000 (bF 1 []) [] [c_n b1_] [] _ rfl (by kernel_rfl) (by kernel_rfl) (by kernel_rfl) (by kernel_rfl) (by kernel_rfl) (by kernel_rfl), by kernel_rfl, by kernel_rfl⟩
  | .next (_ + 4) _, _, h => by cases h
  | .out _ _, _, h => by cases h
theorem axial_L7_4_go (ka : Nat) (ca : List D) (kb : Nat) (cb : List D) (x0 : Nat) (x1 : List D) {q : Nat} {ds : List D} {j : Nat} {es : List D} (h : runR (axial_L7_4_S ka ca kb cb x0 x1) (.next q ds) = some (.out j es)) : Runs (ctx [44, 67] axial_sp) Tabs axial_L7_4_A (stateOf (axial_L7_4_gs ka ca kb cb x0 x1 (.next q ds))) (stateOf (axial_L7_4_gs ka ca kb cb x0 x1 (.out j es))) (axial_L7_4_ax (.out j es)) ∧ (nxtOf (axial_L7_4_gs ka ca kb cb x0 x1 (.out j es)), lowGS (axial_L7_4_gs ka ca kb cb x0 x1 (.out j es))) = (axial_L7_4_A.nx, axial_L7_4_A.low) :=
  runs_of' (good true _ _) axial_L7_4_ok (ax := axial_L7_4_ax) (fun _ _ => rfl) (fun _ _ => axOf_end _) (axial_L7_4_S_ok ka ca kb cb x0 x1) h
theorem axial_L7_4_in0 (ka : Nat) (ca : List D) (kb : Nat) (cb : List D) (x0 : Nat) (x1 : List D) {es : List D} (h : runR (axial_L7_4_S ka ca kb cb x0 x1) (.next 3 [iD ((0 : Int)), .one (.tuple #[]), .one (.tuple #[])]) = some (.out 0 es)) : LoopC (loopAt Try.prog 44 1) (axial_L7_4_E ka ca kb cb x0 x1) 37 noFrame axial_x7_0 es :=
  have r := axial_L7_4_go ka ca kb cb x0 x1 h
  loopin_as rfl (loop_in (l := axial_L7_4_A) (E := (axial_L7_4_E ka ca kb cb x0 x1)) (S := stateOf (axial_L7_4_gs ka ca kb cb x0 x1 (.next 3 [iD ((0 : Int)), .one (.tuple #[]), .one (.tuple #[])]))) (ns := nsOf (axial_L7_4_gs ka ca kb cb x0 x1 (.next 3 [iD ((0 : Int)), .one (.tuple #[]), .one (.tuple #[])]))) axial_L7_4_ok r.1 r.2 (by kernel_rfl) (by kernel_rfl) (by kernel_rfl) (by kernel_rfl))
theorem axial_L7_4_in1 (ka : Nat) (ca : List D) (kb : Nat) (cb : List D) (x0 : Nat) (x1 : List D) {es : List D} (h : runR (axial_L7_4_S ka ca kb cb x0 x1) (.next 3 [iD ((0 : Int)), .one (.tuple #[]), .one (.tuple #[])]) = some (.out 1 es)) : LoopC (loopAt Try.prog 44 1) (axial_L7_4_E ka ca kb cb x0 x1) 37 noFrame axial_x7_1 es :=
  have r := axial_L7_4_go ka ca kb cb x0 x1 h
  loopin_as rfl (loop_in (l := axial_L7_4_A) (E := (axial_L7_4_E ka ca kb cb x0 x1)) (S := stateOf (axial_L7_4_gs ka ca kb cb x0 x1 (.next 3 [iD ((0 : Int)), .one (.tuple #[]), .one (.tuple #[])]))) (ns := nsOf (axial_L7_4_gs ka ca kb cb x0 x1 (.next 3 [iD ((0 : Int)), .one (.tuple #[]), .one (.tuple #[])]))) axial_L7_4_ok r.1 r.2 (by kernel_rfl) (by kernel_rfl) (by kernel_rfl) (by kernel_rfl))
theorem axial_L7_4_in2 (ka : Nat) (ca : List D) (kb : Nat) (cb : List D) (x0 : Nat) (x1 : List D) {es : List D} (h : runR (axial_L7_4_S ka ca kb cb x0 x1) (.next 3 [iD ((0 : Int)), .one (.tuple #[]), .one (.tuple #[])]) = some (.out 2 es)) : LoopC (loopAt Try.prog 44 1) (axial_L7_4_E ka ca kb cb x0 x1) 37 noFrame axial_x7_2 es :=
  have r := axial_L7_4_go ka ca kb cb x0 x1 h
  loopin_as rfl (loop_in (l := axial_L7_4_A) (E := (axial_L7_4_E ka ca kb cb x0 x1)) (S := stateOf (axial_L7_4_gs ka ca kb cb x0 x1 (.next 3 [iD ((0 : Int)), .one (.tuple #[]), .one (.tuple #[])]))) (ns := nsOf (axial_L7_4_gs ka ca kb cb x0 x1 (.next 3 [iD ((0 : Int)), .one (.tuple #[]), .one (.tuple #[])]))) axial_L7_4_ok r.1 r.2 (by kernel_rfl) (by kernel_rfl) (by kernel_rfl) (by kernel_rfl))
theorem axial_L7_4_in3 (ka : Nat) (ca : List D) (kb : Nat) (cb : List D) (x0 : Nat) (x1 : List D) {es : List D} (h : runR (axial_L7_4_S ka ca kb cb x0 x1) (.next 3 [iD ((0 : Int)), .one (.tuple #[]), .one (.tuple #[])]) = some (.out 3 es)) : LoopC (loopAt Try.prog 44 1) (axial_L7_4_E ka ca kb cb x0 x1) 37 noFrame axial_x7_3 es :=
  have r := axial_L7_4_go ka ca kb cb x0 x1 h
  loopin_as rfl (loop_in (l := axial_L7_4_A) (E := (axial_L7_4_E ka ca kb cb x0 x1)) (S := stateOf (axial_L7_4_gs ka ca kb cb x0 x1 (.next 3 [iD ((0 : Int)), .one (.tuple #[]), .one (.tuple #[])]))) (ns := nsOf (axial_L7_4_gs ka ca kb cb x0 x1 (.next 3 [iD ((0 : Int)), .one (.tuple #[]), .one (.tuple #[])]))) axial_L7_4_ok r.1 r.2 (by kernel_rfl) (by kernel_rfl) (by kernel_rfl) (by kernel_rfl))
def axial_L7_3_E (ka : Nat) (ca : List D) (kb : Nat) (cb : List D) (x0 : Nat) (x1 : List D) (x2 : Nat) (x3 : List D) : List AV × AHeap := ([.agg [.dsl 0, .dsl 1], .ptr 2 0, .ptr 3 0, .ptr 4 0, .dsl 5, .pure (.int .i64 (1 : Int)), .dsl 1, .any 9, .any 10, .agg [.dsl 0, .dsl 1], .dsl 5, .agg [.dsl 0, .dsl 1], .agg [.dsl 0, .dsl 1], .pure (.int .i64 (1 : Int)), .pure (.bool true), .pure (.int .i64 (1 : Int)), .dsl 1, .dsl 1, .pure (.int .i64 (kb : Int)), .pure (.int .i64 (0 : Int)), .any 12, .any 13, .any 14, .any 15, .any 16, .any 17, .any 18, .any 19, .any 20, .any 21, .any 22, .any 23, .any 24, .any 25, .any 26, .any 27, .any 28, .any 29, .any 30, .any 31, .any 32, .any 33, .any 34, .any 35, .pure (.int .i64 (1 : Int)), .pure (.tuple #[])], [(8, { cells := [], opn := some 1, kind := .big x3 }), (7, { cells := [.dsl 0, .dsl 1], opn := none, kind := .cells }), (6, { cells := [.dsl 0, .dsl 1], opn := none, kind := .cells }), (5, { cells := [], opn := none, kind := .deep x0 x1 }), (4, { cells := [.bslx 8 0 x2 0, .pure (.slice none 0 0)], opn := none, kind := .cells }), (3, { cells := [.pure (.slice none 0 0), .pure (.slice none 0 0)], opn := none, kind := .cells }), (2, { cells := [.dsl 0, .dsl 1], opn := none, kind := .cells }), (1, { cells := [], opn := none, kind := .deep kb cb }), (0, { cells := [], opn := none, kind := .deep ka ca })])
def axial_L7_3_A : LoopAt := ⟨44, loopAt Try.prog 44 1, 37, 66, 4, noFrame⟩
theorem axial_L7_3_ok : (axial_L7_3_A).OK := ⟨by show 37 ≤ 66; decide, by show 4 ≤ 37; decide, by kernel_rfl, rfl⟩
def axial_L7_3_gs (ka : Nat) (ca : List D) (kb : Nat) (cb : List D) (x0 : Nat) (x1 : List D) (x2 : Nat) (x3 : List D) : Go.Ev.Rd → Option GS
  | .next 0 ds => ghost [.val 19, .cgrow 3 0 1, .cgrow 3 1 1] (7 :: (8 :: (List.range' 20 24))) (axial_L7_3_E ka ca kb cb x0 x1 x2 x3).1 (axial_L7_3_E ka ca kb cb x0 x1 x2 x3).2 37 ds
  | .next 1 ds => ghost [.val 19, .cnil 3 0, .cgrow 3 1 1] (7 :: (8 :: (List.range' 20 24))) (axial_L7_3_E ka ca kb cb x0 x1 x2 x3).1 (axial_L7_3_E ka ca kb cb x0 x1 x2 x3).2 37 ds
  | .next 2 ds => ghost [.val 19, .cgrow 3 0 1, .cnil 3 1] (7 :: (8 :: (List.range' 20 24))) (axial_L7_3_E ka ca kb cb x0 x1 x2 x3).1 (axial_L7_3_E ka ca kb cb x0 x1 x2 x3).2 37 ds
  | .next 3 ds => ghost [.val 19, .cnil 3 0, .cnil 3 1] (7 :: (8 :: (List.range' 20 24))) (axial_L7_3_E ka ca kb cb x0 x1 x2 x3).1 (axial_L7_3_E ka ca kb cb x0 x1 x2 x3).2 37 ds
  | .out 0 ds => ghost axial_x7_0.live axial_x7_0.junk (axial_L7_3_E ka ca kb cb x0 x1 x2 x3).1 (axial_L7_3_E ka ca kb cb x0 x1 x2 x3).2 37 ds
  | .out 1 ds => ghost axial_x7_1.live axial_x7_1.junk (axial_L7_3_E ka ca kb cb x0 x1 x2 x3).1 (axial_L7_3_E ka ca kb cb x0 x1 x2 x3).2 37 ds
  | .out 2 ds => ghost axial_x7_2.live axial_x7_2.junk (axial_L7_3_E ka ca kb cb x0 x1 x2 x3).1 (axial_L7_3_E ka ca kb cb x0 x1 x2 x3).2 37 ds
  | .out 3 ds => ghost axial_x7_3.live axial_x7_3.junk (axial_L7_3_E ka ca kb cb x0 x1 x2 x3).1 (axial_L7_3_E ka ca kb cb x0 x1 x2 x3).2 37 ds
  | _ => none
def axial_L7_3_ex : Nat → Option Nat
  | 0 => axial_x7_0.ex
  | 1 => axial_x7_1.ex
  | 2 => axial_x7_2.ex
  | 3 => axial_x7_3.ex
  | _ => none
def axial_L7_3_ax : Go.Ev.Rd → AX
  | .next _ _ => .normal
  | .out j _ => axOf (axial_L7_3_ex j)
def axial_L7_3_S0 (ka : Nat) (ca : List D) (kb : Nat) (cb : List D) (x0 : Nat) (x1 : List D) (x2 : Nat) (x3 : List D) (ds : List D) : Option Go.Ev.Rd := pullD (α := Int × Nat × (List D) × Nat × (List D)) (some (.tup ds)) (fun d => ((D.vi (D.at d 0)), (D.ln (D.at d 1)), (D.lc (D.at d 1)), (D.ln (D.at d 2)), (D.lc (D.at d 2)))) (fun (s19, s3_0n, s3_0c, s3_1n, s3_1c) => .tup [iD s19, .list s3_0n s3_0c, .list s3_1n s3_1c]) fun (s19, s3_0n, s3_0c, s3_1n, s3_1c) => ((if s19 < (kb : Int) then guardP ((0 : Int) ≤ s19 ∧ s19.toNat < kb) (pullD (α := Int) (readD cb (s19.toNat * 1) 1 false) (fun d => ((D.vi d))) (fun v0 => iD v0) fun v0 => (guardP ((0 : Int) ≤ s19 ∧ s19.toNat < x0) (pullD (α := Int) (readD x1 (s19.toNat * 1) 1 false) (fun d => ((D.vi d))) (fun v1 => iD v1) fun v1 => (guardP ((0 : Int) ≤ IntKind.i64.wrap (s19 + (1 : Int)) ∧ (IntKind.i64.wrap (s19 + (1 : Int))).toNat < x0) (pullD (α := Int) (readD x1 ((IntKind.i64.wrap (s19 + (1 : Int))).toNat * 1) 1 false) (fun d => ((D.vi d))) (fun v2 => iD v2) fun v2 => (guardP ((∀ (u : D), u ∈ [dCell (.int .i64 (IntKind.i64.wrap (v0 * IntKind.i64.wrap (v1 + v2))))] → cellD u) ∧ s3_1n * 1 ≤ s3_1c.length ∧ (s3_1n + (0 + 1)) * 8 ≤ 140737488355328 ∧ s3_1n + (0 + 1) ≤ 4611686018427387904) (some (.next 0 [iD (IntKind.i64.wrap (s19 + (1 : Int))), .list s3_0n s3_0c, .list (s3_1n + (0 + 1)) (List.append (List.take (s3_1n * 1) s3_1c) [dCell (.int .i64 (IntKind.i64.wrap (v0 * IntKind.i64.wrap (v1 + v2))))])])))))))) else some (.out 0 [.list s3_0n s3_0c, .list s3_1n s3_1c])))
def axial_L7_3_S1 (ka : Nat) (ca : List D) (kb : Nat) (cb : List D) (x0 : Nat) (x1 : List D) (x2 : Nat) (x3 : List D) (ds : List D) : Option Go.Ev.Rd := pullD (α := Int × Nat × (List D)) (some (.tup ds)) (fun d => ((D.vi (D.at d 0)), (D.ln (D.at d 2)), (D.lc (D.at d 2)))) (fun (s19, s3_1n, s3_1c) => .tup [iD s19, .one (.tuple #[]), .list s3_1n s3_1c]) fun (s19, s3_1n, s3_1c) => ((if s19 < (kb : Int) then guardP ((0 : Int) ≤ s19 ∧ s19.toNat < kb) (pullD (α := Int) (readD cb (s19.toNat * 1) 1 false) (fun d => ((D.vi d))) (fun v0 => iD v0) fun v0 => (guardP ((0 : Int) ≤ s19 ∧ s19.toNat < x0) (pullD (α := Int) (readD x1 (s19.toNat * 1) 1 false) (fun d => ((D.vi d))) (fun v1 => iD v1) fun v1 => (guardP ((0 : Int) ≤ IntKind.i64.wrap (s19 + (1 : Int)) ∧ (IntKind.i64.wrap (s19 + (1 : Int))).toNat < x0) (pullD (α := Int) (readD x1 ((IntKind.i64.wrap (s19 + (1 : Int))).toNat * 1) 1 false) (fun d => ((D.vi d))) (fun v2 => iD v2) fun v2 => (guardP ((∀ (u : D), u ∈ [dCell (.int .i64 (IntKind.i64.wrap (v0 * IntKind.i64.wrap (v1 + v2))))] → cellD u) ∧ s3_1n * 1 ≤ s3_1c.length ∧ (s3_1n + (0 + 1)) * 8 ≤ 140737488355328 ∧ s3_1n + (0 + 1) ≤ 4611686018427387904) (some (.next 1 [iD (IntKind.i64.wrap (s19 + (1 : Int))), .one (.tuple #[]), .list (s3_1n + (0 + 1)) (List.append (List.take (s3_1n * 1) s3_1c) [dCell (.int .i64 (IntKind.i64.wrap (v0 * IntKind.i64.wrap (v1 + v2))))])])))))))) else some (.out 1 [.one (.tuple #[]), .list s3_1n s3_1c])))
def axial_L7_3_S2 (ka : Nat) (ca : List D) (kb : Nat) (cb : List D) (x0 : Nat) (x1 : List D) (x2 : Nat) (x3 : List D) (ds : List D) : Option Go.Ev.Rd := pullD (α := Int × Nat × (List D)) (some (.tup ds)) (fun d => ((D.vi (D.at d 0)), (D.ln (D.at d 1)), (D.lc (D.at d 1)))) (fun (s19, s3_0n, s3_0c) => .tup [iD s19, .list s3_0n s3_0c, .one (.tuple #[])]) fun (s19, s3_0n, s3_0c) => ((if s19 < (kb : Int) then guardP ((0 : Int) ≤ s19 ∧ s19.toNat < kb) (pullD (α := Int) (readD cb (s19.toNat * 1) 1 false) (fun d => ((D.vi d))) (fun v0 => iD v0) fun v0 => (guardP ((0 : Int) ≤ s19 ∧ s19.toNat < x0) (pullD (α := Int) (readD x1 (s19.toNat * 1) 1 false) (fun d => ((D.vi d))) (fun v1 => iD v1) fun v1 => (guardP ((0 : Int) ≤ IntKind.i64.wrap (s19 + (1 : Int)) ∧ (IntKind.i64.wrap (s19 + (1 : Int))).toNat < x0) (pullD (α := Int) (readD x1 ((IntKind.i64.wrap (s19 + (1 : Int))).toNat * 1) 1 false) (fun d => ((D.vi d))) (fun v2 => iD v2) fun v2 => (some (.next 0 [iD (IntKind.i64.wrap (s19 + (1 : Int))), .list s3_0n s3_0c, .list 1 [iD (IntKind.i64.wrap (v0 * IntKind.i64.wrap (v1 + v2)))]]))))))) else some (.out 2 [.list s3_0n s3_0c, .one (.tuple #[])])))
def axial_L7_3_S3 (ka : Nat) (ca : List D) (kb : Nat) (cb : List D) (x0 : Nat) (x1 : List D) (x2 : Nat) (x3 : List D) (ds : List D) : Option Go.Ev.Rd := pullD (α := Int) (some (.tup ds)) (fun d => ((D.vi (D.at d 0)))) (fun s19 => .tup [iD s19, .one (.tuple #[]), .one (.tuple #[])]) fun s19 => ((if s19 < (kb : Int) then guardP ((0 : Int) ≤ s19 ∧ s19.toNat < kb) (pullD (α := Int) (readD cb (s19.toNat * 1) 1 false) (fun d => ((D.vi d))) (fun v0 => iD v0) fun v0 => (guardP ((0 : Int) ≤ s19 ∧ s19.toNat < x0) (pullD (α := Int) (readD x1 (s19.toNat * 1) 1 false) (fun d => ((D.vi d))) (fun v1 => iD v1) fun v1 => (guardP ((0 : Int) ≤ IntKind.i64.wrap (s19 + (1 : Int)) ∧ (IntKind.i64.wrap (s19 + (1 : Int))).toNat < x0) (pullD (α := Int) (readD x1 ((IntKind.i64.wrap (s19 + (1 : Int))).toNat * 1) 1 false) (fun d => ((D.vi d))) (fun v2 => iD v2) fun v2 => (some (.next 1 [iD (IntKind.i64.wrap (s19 + (1 : Int))), .one (.tuple #[]), .list 1 [iD (IntKind.i64.wrap (v0 * IntKind.i64.wrap (v1 + v2)))]]))))))) else some (.out 3 [.one (.tuple #[]), .one (.tuple #[])])))
def axial_L7_3_S (ka : Nat) (ca : List D) (kb : Nat) (cb : List D) (x0 : Nat) (x1 : List D) (x2 : Nat) (x3 : List D) : Go.Ev.Rd → Option Go.Ev.Rd
  | .next 0 ds => axial_L7_3_S0 ka ca kb cb x0 x1 x2 x3 ds
  | .next 1 ds => axial_L7_3_S1 ka ca kb cb x0 x1 x2 x3 ds
  | .next 2 ds => axial_L7_3_S2 ka ca kb cb x0 x1 x2 x3 ds
  | .next 3 ds => axial_L7_3_S3 ka ca kb cb x0 x1 x2 x3 ds
  | _ => none
theorem axial_L7_3_S_ok (ka : Nat) (ca : List D) (kb : Nat) (cb : List D) (x0 : Nat) (x1 : List D) (x2 : Nat) (x3 : List D) : ∀ s_ t_, axial_L7_3_S ka ca kb cb x0 x1 x2 x3 s_ = some t_ → Step (ctx [44, 67] axial_sp) Tabs axial_L7_3_A (stateOf (axial_L7_3_gs ka ca kb cb x0 x1 x2 x3 s_)) (stateOf (axial_L7_3_gs ka ca kb cb x0 x1 x2 x3 t_)) (axial_L7_3_ax t_) ∧ EndOK axial_L7_3_A.nx axial_L7_3_A.low (axial_L7_3_gs ka ca kb cb x0 x1 x2 x3) t_
  | .next 0 ds, t_, h => by
    have h_ : axial_L7_3_S0 ka ca kb cb x0 x1 x2 x3 ds = some t_ := h
    clear h
    unfold axial_L7_3_S0 at h_
    obtain ⟨⟨s19, s3_0n, s3_0c, s3_1n, s3_1c⟩, e0, h0⟩ := pullD_elim h_
    clear h_
    obtain rfl := tup_inj e0
    by_cases b1_ : s19 < (kb : Int)
    · have h2_ := (if_pos b1_).symm.trans h0
      obtain ⟨f3_, h4_⟩ := guardP_elim h2_
      obtain ⟨v0, f5_, h6_⟩ := pullD_elim h4_
      replace f5_ := readD_elim f5_
      obtain ⟨f7_, h8_⟩ := guardP_elim h6_
      obtain ⟨v1, f9_, h10_⟩ := pullD_elim h8_
      replace f9_ := readD_elim f9_
      obtain ⟨f11_, h12_⟩ := guardP_elim h10_
      obtain ⟨v2, f13_, h14_⟩ := pullD_elim h12_
      replace f13_ := readD_elim f13_
      obtain ⟨f15_, h16_⟩ := guardP_elim h14_
      obtain rfl := Option.some.inj h16_
      exact ⟨step_pc 3000 (bT 1 []) [iD v0, iD v1, iD v2] [c_d b1_, c_f f3_, c_f f5_, c_f f7_, c_f f9_, c_f f11_, c_f f13_, c_f f15_] [] _ rfl (by kernel_rfl) (by kernel_rfl) (by kernel_rfl) (by kernel_rfl) (by kernel_rfl) (by kernel_rfl), trivial⟩
    have h2_ := (if_neg b1_).symm.trans h0
    obtain rfl := Option.some.inj h2_
    exact ⟨step_pc 3000 (bF 1 []) [] [c_n b1_] [] _ rfl (by kernel_rfl) (by kernel_rfl) (by kernel_rfl) (by kernel_rfl) (by kernel_rfl) (by kernel_rfl), by kernel_rfl, by kernel_rfl⟩
  | .next 1 ds, t_, h => by
    have h_ : axial_L7_3_S1 ka ca kb cb x0 x1 x2 x3 ds = some t_ := h
    clear h
    unfold axial_L7_3_S1 at h_
    obtain ⟨⟨s19, s3_1n, s3_1c⟩, e0, h0⟩ := pullD_elim h_
    clear h_
    obtain rfl := tup_inj e0
    by_cases b1_ : s19 < (kb : Int)
    · have h2_ := (if_pos b1_).symm.trans h0
      obtain ⟨f3_, h4_⟩ := guardP_elim h2_
      obtain ⟨v0, f5_, h6_⟩ := pullD_elim h4_
      replace f5_ := readD_elim f5_
      obtain ⟨f7_, h8_⟩ := guardP_elim h6_
      obtain ⟨v1, f9_, h10_⟩ := pullD_elim h8_
      replace f9_ := readD_elim f9_
      obtain ⟨f11_, h12_⟩ := guardP_elim h10_
      obtain ⟨v2, f13_, h14_⟩ := pullD_elim h12_
      replace f13_ := readD_elim f13_
      obtain ⟨f15_, h16_⟩ := guardP_elim h14_
      obtain rfl := Option.some.inj h16_
      exact ⟨step_pc 3000 (bT 1 []) [iD v0, iD v1, iD v2] [c_d b1_, c_f f3_, c_f f5_, c_f f7_, c_f f9_, c_f f11_, c_f f13_, c_f f15_] [] _ rfl (by kernel_rfl) (by kernel_rfl) (by kernel_rfl) (by kernel_rfl) (by kernel_rfl) (by kernel_rfl), trivial⟩
    have h2_ := (if_neg b1_).symm.trans h0
    obtain rfl := Option.some.inj h2_
    exact ⟨step_pc 3000 (bF 1 []) [] [c_n b1_] [] _ rfl (by kernel_rfl) (by kernel_rfl) (by kernel_rfl) (by kernel_rfl) (by kernel_rfl) (by kernel_rfl), by kernel_rfl, by kernel_rfl⟩
  | .next 2 ds, t_, h => by
    have h_ : axial_L7_3_S2 ka ca kb cb x0 x1 x2 x3 ds = some t_ := h
    clear h
    unfold axial_L7_3_S2 at h_
    obtain ⟨⟨s19, s3_0n, s3_0c⟩, e0, h0⟩ := pullD_elim h_
    clear h_
    obtain rfl := tup_inj e0
    by_cases b1_ : s19 < (kb : Int)
    · have h2_ := (if_pos b1_).symm.trans h0
      obtain ⟨f3_, h4_⟩ := guardP_elim h2_
      obtain ⟨v0, f5_, h6_⟩ := pullD_elim h4_
      replace f5_ := readD_elim f5_
      obtain ⟨f7_, h8_⟩ := guardP_elim h6_
      obtain ⟨v1, f9_, h10_⟩ := pullD_elim h8_
      replace f9_ := readD_elim f9_
      obtain ⟨f11_, h12_⟩ := guardP_elim h10_
      obtain ⟨v2, f13_, h14_⟩ := pullD_elim h12_
      replace f13_ := readD_elim f13_
      obtain rfl := Option.some.inj h14_
      exact ⟨step_pc 3000 (bT 1 []) [iD v0, iD v1, iD v2] [c_d b1_, c_f f3_, c_f f5_, c_f f7_, c_f f9_, c_f f11_, c_f f13_, ⟨fact (0 < 0 + 1 ∧ (0 + 1) * 8 ≤ 140737488355328 ∧ 0 + 1 ≤ 4611686018427387904), true, fact_mk (by decide)⟩] [] _ rfl (by kernel_rfl) (by kernel_rfl) (by kernel_rfl) (by kernel_rfl) (by kernel_rfl) (by kernel_rfl), trivial⟩
    have h2_ := (if_neg b1_).symm.trans h0
    obtain rfl := Option.some.inj h2_
    exact ⟨step_pc 3000 (bF 1 []) [] [c_n b1_] [] _ rfl (by kernel_rfl) (by kernel_rfl) (by kernel_rfl) (by kernel_rfl) (by kernel_rfl) (by kernel_rfl), by kernel_rfl, by kernel_rfl⟩
  | .next 3 ds, t_, h => by
    have h_ : axial_L7_3_S3 ka ca kb cb x0 x1 x2 x3 ds = some t_ := h
    clear h
    unfold axial_L7_3_S3 at h_
    obtain ⟨s19, e0, h0⟩ := pullD_elim h_
    clear h_
    obtain rfl := tup_inj e0
    by_cases b1_ : s19 < (kb : Int)
    · have h2_ := (if_pos b1_).symm.trans h0
      obtain ⟨f3_, h4_⟩ := guardP_elim h2_
      obtain ⟨v0, f5_, h6_⟩ := pullD_elim h4_
      replace f5_ := readD_elim f5_
      obtain ⟨f7_, h8_⟩ := guardP_elim h6_
      obtain ⟨v1, f9_, h10_⟩ := pullD_elim h8_
      replace f9_ := readD_elim f9_
      obtain ⟨f11_, h12_⟩ := guardP_elim h10_
      obtain ⟨v2, f13_, h14_⟩ := pullD_elim h12_
      replace f13_ := readD_elim f13_
      obtain rfl := Option.some.inj h14_
      exact ⟨step_pc 3000 (bT 1 []) [iD v0, iD v1, iD v2] [c_d b1_, c_f f3_, c_f f5_, c_f f7_, c_f f9_, c_f f11_, c_f f13_, ⟨fact (0 < 0 + 1 ∧ (0 + 1) * 8 ≤ 140737488355328 ∧ 0 + 1 ≤ 4611686018427387904), true, fact_mk (by decide)⟩] [] _ rfl (by kernel_rfl) (by kernel_rfl) (by kernel_rfl) (by kernel_rfl) (by kernel_rfl) (by kernel_rfl), trivial⟩
    have h2_ := (if_neg b1_).symm.trans h0
    obtain rfl := Option.some.inj h2_
    exact ⟨step_pc 3000 (bF 1 []) [] [c_n b1_] [] _ rfl (by kernel_rfl) (by kernel_rfl) (by kernel_rfl) (by kernel_rfl) (by kernel_rfl) (by kernel_rfl), by kernel_rfl, by kernel_rfl⟩
  | .next (_ + 4) _, _, h => by cases h
  | .out _ _, _, h => by cases h
theorem axial_L7_3_go (ka : Nat) (ca : List D) (kb : Nat) (cb : List D) (x0 : Nat) (x1 : List D) (x2 : Nat) (x3 : List D) {q : Nat} {ds : List D} {j : Nat} {es : List D} (h : runR (axial_L7_3_S ka ca kb cb x0 x1 x2 x3) (.next q ds) = some (.out j es)) : Runs (ctx [44, 67] axial_sp) Tabs axial_L7_3_A (stateOf (axial_L7_3_gs ka ca kb cb x0 x1 x2 x3 (.next q ds))) (stateOf (axial_L7_3_gs ka ca kb cb x0 x1 x2 x3 (.out j es))) (axial_L7_3_ax (.out j es)) ∧ (nxtOf (axial_L7_3_gs ka ca kb cb x0 x1 x2 x3 (.out j es)), lowGS (axial_L7_3_gs ka ca kb cb x0 x1 x2 x3 (.out j es))) = (axial_L7_3_A.nx, axial_L7_3_A.low) :=
  runs_of' (good true _ _) axial_L7_3_ok (ax := axial_L7_3_ax) (fun _ _ => rfl) (fun _ _ => axOf_end _) (axial_L7_3_S_ok ka ca kb cb x0 x1 x2 x3) h
theorem axial_L7_3_in0 (ka : Nat) (ca : List D) (kb : Nat) (cb : List D) (x0 : Nat) (x1 : List D) (x2 : Nat) (x3 : List D) {es : List D} (h : runR (axial_L7_3_S ka ca kb cb x0 x1 x2 x3) (.next 2 [iD ((0 : Int)), .list (x2) (x3), .one (.tuple #[])]) = some (.out 0 es)) : LoopC (loopAt Try.prog 44 1) (axial_L7_3_E ka ca kb cb x0 x1 x2 x3) 37 noFrame axial_x7_0 es :=
  have r := axial_L7_3_go ka ca kb cb x0 x1 x2 x3 h
  loopin_as rfl (loop_in (l := axial_L7_3_A) (E := (axial_L7_3_E ka ca kb cb x0 x1 x2 x3)) (S := stateOf (axial_L7_3_gs ka ca kb cb x0 x1 x2 x3 (.next 2 [iD ((0 : Int)), .list (x2) (x3), .one (.tuple #[])]))) (ns := nsOf (axial_L7_3_gs ka ca kb cb x0 x1 x2 x3 (.next 2 [iD ((0 : Int)), .list (x2) (x3), .one (.tuple #[])]))) axial_L7_3_ok r.1 r.2 (by kernel_rfl) (by kernel_rfl) (by kernel_rfl) (by kernel_rfl))
theorem axial_L7_3_in1 (ka : Nat) (ca : List D) (kb : Nat) (cb : List D) (x0 : Nat) (x1 : List D) (x2 : Nat) (x3 : List D) {es : List D} (h : runR (axial_L7_3_S ka ca kb cb x0 x1 x2 x3) (.next 2 [iD ((0 : Int)), .list (x2) (x3), .one (.tuple #[])]) = some (.out 1 es)) : LoopC (loopAt Try.prog 44 1) (axial_L7_3_E ka ca kb cb x0 x1 x2 x3) 37 noFrame axial_x7_1 es :=
  have r := axial_L7_3_go ka ca kb cb x0 x1 x2 x3 h
  loopin_as rfl (loop_in (l := axial_L7_3_A) (E := (axial_L7_3_E ka ca kb cb x0 x1 x2 x3)) (S := stateOf (axial_L7_3_gs ka ca kb cb x0 x1 x2 x3 (.next 2 [iD ((0 : Int)), .list (x2) (x3), .one (.tuple #[])]))) (ns := nsOf (axial_L7_3_gs ka ca kb cb x0 x1 x2 x3 (.next 2 [iD ((0 : Int)), .list (x2) (x3), .one (.tuple #[])]))) axial_L7_3_ok r.1 r.2 (by kernel_rfl) (by kernel_rfl) (by kernel_rfl) (by kernel_rfl))
theorem axial_L7_3_in2 (ka : Nat) (ca : List D) (kb : Nat) (cb : List D) (x0 : Nat) (x1 : List D) (x2 : Nat) (x3 : List D) {es : List D} (h : runR (axial_L7_3_S ka ca kb cb x0 x1 x2 x3) (.next 2 [iD ((0 : Int)), .list (x2) (x3), .one (.tuple #[])]) = some (.out 2 es)) : LoopC (loopAt Try.prog 44 1) (axial_L7_3_E ka ca kb cb x0 x1 x2 x3) 37 noFrame axial_x7_2 es :=
  have r := axial_L7_3_go ka ca kb cb x0 x1 x2 x3 h
  loopin_as rfl (loop_in (l := axial_L7_3_A) (E := (axial_L7_3_E ka ca kb cb x0 x1 x2 x3)) (S := stateOf (axial_L7_3_gs ka ca kb cb x0 x1 x2 x3 (.next 2 [iD ((0 : Int)), .list (x2) (x3), .one (.tuple #[])]))) (ns := nsOf (axial_L7_3_gs ka ca kb cb x0 x1 x2 x3 (.next 2 [iD ((0 : Int)), .list (x2) (x3), .one (.tuple #[])]))) axial_L7_3_ok r.1 r.2 (by kernel_rfl) (by kernel_rfl) (by kernel_rfl) (by kernel_rfl))
theorem axial_L7_3_in3 (ka : Nat) (ca : List D) (kb : Nat) (cb : List D) (x0 : Nat) (x1 : List D) (x2 : Nat) (x3 : List D) {es : List D} (h : runR (axial_L7_3_S ka ca kb cb x0 x1 x2 x3) (.next 2 [iD ((0 : Int)), .list (x2) (x3), .one (.tuple #[])]) = some (.out 3 es)) : LoopC (loopAt Try.prog 44 1) (axial_L7_3_E ka ca kb cb x0 x1 x2 x3) 37 noFrame axial_x7_3 es :=
  have r := axial_L7_3_go ka ca kb cb x0 x1 x2 x3 h
  loopin_as rfl (loop_in (l := axial_L7_3_A) (E := (axial_L7_3_E ka ca kb cb x0 x1 x2 x3)) (S := stateOf (axial_L7_3_gs ka ca kb cb x0 x1 x2 x3 (.next 2 [iD ((0 : Int)), .list (x2) (x3), .one (.tuple #[])]))) (ns := nsOf (axial_L7_3_gs ka ca kb cb x0 x1 x2 x3 (.next 2 [iD ((0 : Int)), .list (x2) (x3), .one (.tuple #[])]))) axial_L7_3_ok r.1 r.2 (by kernel_rfl) (by kernel_rfl) (by kernel_rfl) (by kernel_rfl))
def axial_L7_2_E (ka : Nat) (ca : List D) (kb : Nat) (cb : List D) (x0 : Nat) (x1 : List D) (x2 : Nat) (x3 : List D) : List AV × AHeap := ([.agg [.dsl 0, .dsl 1], .ptr 2 0, .ptr 3 0, .ptr 4 0, .dsl 5, .pure (.int .i64 (1 : Int)), .dsl 1, .any 9, .any 10, .agg [.dsl 0, .dsl 1], .dsl 5, .agg [.dsl 0, .dsl 1], .agg [.dsl 0, .dsl 1], .pure (.int .i64 (1 : Int)), .pure (.bool true), .pure (.int .i64 (1 : Int)), .dsl 1, .dsl 1, .pure (.int .i64 (kb : Int)), .pure (.int .i64 (0 : Int)), .any 12, .any 13, .any 14, .any 15, .any 16, .any 17, .any 18, .any 19, .any 20, .any 21, .any 22, .any 23, .any 24, .any 25, .any 26, .any 27, .any 28, .any 29, .any 30, .any 31, .any 32, .any 33, .any 34, .any 35, .pure (.int .i64 (1 : Int)), .pure (.tuple #[])], [(8, { cells := [], opn := some 1, kind := .big x3 }), (7, { cells := [.dsl 0, .dsl 1], opn := none, kind := .cells }), (6, { cells := [.dsl 0, .dsl 1], opn := none, kind := .cells }), (5, { cells := [], opn := none, kind := .deep x0 x1 }), (4, { cells := [.pure (.slice none 0 0), .bslx 8 0 x2 0], opn := none, kind := .cells }), (3, { cells := [.pure (.slice none 0 0), .pure (.slice none 0 0)], opn := none, kind := .cells }), (2, { cells := [.dsl 0, .dsl 1], opn := none, kind := .cells }), (1, { cells := [], opn := none, kind := .deep kb cb }), (0, { cells := [], opn := none, kind := .deep ka ca })])
def axial_L7_2_A : LoopAt := ⟨44, loopAt Try.prog 44 1, 37, 66, 4, noFrame⟩
theorem axial_L7_2_ok : (axial_L7_2_A).OK := ⟨by show 37 ≤ 66; decide, by show 4 ≤ 37; decide, by kernel_rfl, rfl⟩
def axial_L7_2_gs (ka : Nat) (ca : List D) (kb : Nat) (cb : List D) (x0 : Nat) (x1 : List D) (x2 : Nat) (x3 : List D) : Go.Ev.Rd → Option GS
  | .next 0 ds => ghost [.val 19, .cgrow 3 0 1, .cgrow 3 1 1] (7 :: (8 :: (List.range' 20 24))) (axial_L7_2_E ka ca kb cb x0 x1 x2 x3).1 (axial_L7_2_E ka ca kb cb x0 x1 x2 x3).2 37 ds
  | .next 1 ds => ghost [.val 19, .cnil 3 0, .cgrow 3 1 1] (7 :: (8 :: (List.range' 20 24))) (axial_L7_2_E ka ca kb cb x0 x1 x2 x3).1 (axial_L7_2_E ka ca kb cb x0 x1 x2 x3).2 37 ds
  | .next 2 ds => ghost [.val 19, .cgrow 3 0 1, .cnil 3 1] (7 :: (8 :: (List.range' 20 24))) (axial_L7_2_E ka ca kb cb x0 x1 x2 x3).1 (axial_L7_2_E ka ca kb cb x0 x1 x2 x3).2 37 ds
  | .next 3 ds => ghost [.val 19, .cnil 3 0, .cnil 3 1] (7 :: (8 :: (List.range' 20 24))) (axial_L7_2_E ka ca kb cb x0 x1 x2 x3).1 (axial_L7_2_E ka ca kb cb x0 x1 x2 x3).2 37 ds
  | .out 0 ds => ghost axial_x7_0.live axial_x7_0.junk (axial_L7_2_E ka ca kb cb x0 x1 x2 x3).1 (axial_L7_2_E ka ca kb cb x0 x1 x2 x3).2 37 ds
  | .out 1 ds => ghost axial_x7_1.live axial_x7_1.junk (axial_L7_2_E ka ca kb cb x0 x1 x2 x3).1 (axial_L7_2_E ka ca kb cb x0 x1 x2 x3).2 37 ds
  | .out 2 ds => ghost axial_x7_2.live axial_x7_2.junk (axial_L7_2_E ka ca kb cb x0 x1 x2 x3).1 (axial_L7_2_E ka ca kb cb x0 x1 x2 x3).2 37 ds
  | .out 3 ds => ghost axial_x7_3.live axial_x7_3.junk (axial_L7_2_E ka ca kb cb x0 x1 x2 x3).1 (axial_L7_2_E ka ca kb cb x0 x1 x2 x3).2 37 ds
  | _ => none
def axial_L7_2_ex : Nat → Option Nat
  | 0 => axial_x7_0.ex
  | 1 => axial_x7_1.ex
  | 2 => axial_x7_2.ex
  | 3 => axial_x7_3.ex
  | _ => none
def axial_L7_2_ax : Go.Ev.Rd → AX
  | .next _ _ => .normal
  | .out j _ => axOf (axial_L7_2_ex j)
def axial_L7_2_S0 (ka : Nat) (ca : List D) (kb : Nat) (cb : List D) (x0 : Nat) (x1 : List D) (x2 : Nat) (x3 : List D) (ds : List D) : Option Go.Ev.Rd := pullD (α := Int × Nat × (List D) × Nat × (List D)) (some (.tup ds)) (fun d => ((D.vi (D.at d 0)), (D.ln (D.at d 1)), (D.lc (D.at d 1)), (D.ln (D.at d 2)), (D.lc (D.at d 2)))) (fun (s19, s3_0n, s3_0c, s3_1n, s3_1c) => .tup [iD s19, .list s3_0n s3_0c, .list s3_1n s3_1c]) fun (s19, s3_0n, s3_0c, s3_1n, s3_1c) => ((if s19 < (kb : Int) then guardP ((0 : Int) ≤ s19 ∧ s19.toNat < kb) (pullD (α := Int) (readD cb (s19.toNat * 1) 1 false) (fun d => ((D.vi d))) (fun v0 => iD v0) fun v0 => (guardP ((0 : Int) ≤ s19 ∧ s19.toNat < x0) (pullD (α := Int) (readD x1 (s19.toNat * 1) 1 false) (fun d => ((D.vi d))) (fun v1 => iD v1) fun v1 => (guardP ((0 : Int) ≤ IntKind.i64.wrap (s19 + (1 : Int)) ∧ (IntKind.i64.wrap (s19 + (1 : Int))).toNat < x0) (pullD (α := Int) (readD x1 ((IntKind.i64.wrap (s19 + (1 : Int))).toNat * 1) 1 false) (fun d => ((D.vi d))) (fun v2 => iD v2) fun v2 => (guardP ((∀ (u : D), u ∈ [dCell (.int .i64 (IntKind.i64.wrap (v0 * IntKind.i64.wrap (v1 + v2))))] → cellD u) ∧ s3_1n * 1 ≤ s3_1c.length ∧ (s3_1n + (0 + 1)) * 8 ≤ 140737488355328 ∧ s3_1n + (0 + 1) ≤ 4611686018427387904) (some (.next 0 [iD (IntKind.i64.wrap (s19 + (1 : Int))), .list s3_0n s3_0c, .list (s3_1n + (0 + 1)) (List.append (List.take (s3_1n * 1) s3_1c) [dCell (.int .i64 (IntKind.i64.wrap (v0 * IntKind.i64.wrap (v1 + v2))))])])))))))) else some (.out 0 [.list s3_0n s3_0c, .list s3_1n s3_1c])))
def axial_L7_2_S1 (ka : Nat) (ca : List D) (kb : Nat) (cb : List D) (x0 : Nat) (x1 : List D) (x2 : Nat) (x3 : List D) (ds : List D) : Option Go.Ev.Rd := pullD (α := Int × Nat × (List D)) (some (.tup ds)) (fun d => ((D.vi (D.at d 0)), (D.ln (D.at d 2)), (D.lc (D.at d 2)))) (fun (s19, s3_1n, s3_1c) => .tup [iD s19, .one (.tuple #[]), .list s3_1n s3_1c]) fun (s19, s3_1n, s3_1c) => ((if s19 < (kb : Int) then guardP ((0 : Int) ≤ s19 ∧ s19.toNat < kb) (pullD (α := Int) (readD cb (s19.toNat * 1) 1 false) (fun d => ((D.vi d))) (fun v0 => iD v0) fun v0 => (guardP ((0 : Int) ≤ s19 ∧ s19.toNat < x0) (pullD (α := Int) (readD x1 (s19.toNat * 1) 1 false) (fun d => ((D.vi d))) (fun v1 => iD v1) fun v1 => (guardP ((0 : Int) ≤ IntKind.i64.wrap (s19 + (1 : Int)) ∧ (IntKind.i64.wrap (s19 + (1 : Int))).toNat < x0) (pullD (α := Int) (readD x1 ((IntKind.i64.wrap (s19 + (1 : Int))).toNat * 1) 1 false) (fun d => ((D.vi d))) (fun v2 => iD v2) fun v2 => (guardP ((∀ (u : D), u ∈ [dCell (.int .i64 (IntKind.i64.wrap (v0 * IntKind.i64.wrap (v1 + v2))))] → cellD u) ∧ s3_1n * 1 ≤ s3_1c.length ∧ (s3_1n + (0 + 1)) * 8 ≤ 140737488355328 ∧ s3_1n + (0 + 1) ≤ 4611686018427387904) (some (.next 1 [iD (IntKind.i64.wrap (s19 + (1 : Int))), .one (.tuple #[]), .list (s3_1n + (0 + 1)) (List.append (List.take (s3_1n * 1) s3_1c) [dCell (.int .i64 (IntKind.i64.wrap (v0 * IntKind.i64.wrap (v1 + v2))))])])))))))) else some (.out 1 [.one (.tuple #[]), .list s3_1n s3_1c])))
def axial_L7_2_S2 (ka : Nat) (ca : List D) (kb : Nat) (cb : List D) (x0 : Nat) (x1 : List D) (x2 : Nat) (x3 : List D) (ds : List D) : Option Go.Ev.Rd := pullD (α := Int × Nat × (List D)) (some (.tup ds)) (fun d => ((D.vi (D.at d 0)), (D.ln (D.at d 1)), (D.lc (D.at d 1)))) (fun (s19, s3_0n, s3_0c) => .tup [iD s19, .list s3_0n s3_0c, .one (.tuple #[])]) fun (s19, s3_0n, s3_0c) => ((if s19 < (kb : Int) then guardP ((0 : Int) ≤ s19 ∧ s19.toNat < kb) (pullD (α := Int) (readD cb (s19.toNat * 1) 1 false) (fun d => ((D.vi d))) (fun v0 => iD v0) fun v0 => (guardP ((0 : Int) ≤ s19 ∧ s19.toNat < x0) (pullD (α := Int) (readD x1 (s19.toNat * 1) 1 false) (fun d => ((D.vi d))) (fun v1 => iD v1) fun v1 => (guardP ((0 : Int) ≤ IntKind.i64.wrap (s19 + (1 : Int)) ∧ (IntKind.i64.wrap (s19 + (1 : Int))).toNat < x0) (pullD (α := Int) (readD x1 ((IntKind.i64.wrap (s19 + (1 : Int))).toNat * 1) 1 false) (fun d => ((D.vi d))) (fun v2 => iD v2) fun v2 => (some (.next 0 [iD (IntKind.i64.wrap (s19 + (1 : Int))), .list s3_0n s3_0c, .list 1 [iD (IntKind.i64.wrap (v0 * IntKind.i64.wrap (v1 + v2)))]]))))))) else some (.out 2 [.list s3_0n s3_0c, .one (.tuple #[])])))
def axial_L7_2_S3 (ka : Nat) (ca : List D) (kb : Nat) (cb : List D) (x0 : Nat) (x1 : List D) (x2 : Nat) (x3 : List D) (ds : List D) : Option Go.Ev.Rd := pullD (α := Int) (some (.tup ds)) (fun d => ((D.vi (D.at d 0)))) (fun s19 => .tup [iD s19, .one (.tuple #[]), .one (.tuple #[])]) fun s19 => ((if s19 < (kb : Int) then guardP ((0 : Int) ≤ s19 ∧ s19.toNat < kb) (pullD (α := Int) (readD cb (s19.toNat * 1) 1 false) (fun d => ((D.vi d))) (fun v0 => iD v0) fun v0 => (guardP ((0 : Int) ≤ s19 ∧ s19.toNat < x0) (pullD (α := Int) (readD x1 (s19.toNat * 1) 1 false) (fun d => ((D.vi d))) (fun v1 => iD v1) fun v1 => (guardP ((0 : Int) ≤ IntKind.i64.wrap (s19 + (1 : Int)) ∧ (IntKind.i64.wrap (s19 + (1 : Int))).toNat < x0) (pullD (α := Int) (readD x1 ((IntKind.i64.wrap (s19 + (1 : Int))).toNat * 1) 1 false) (fun d => ((D.vi d))) (fun v2 => iD v2) fun v2 => (some (.next 1 [iD (IntKind.i64.wrap (s19 + (1 : Int))), .one (.tuple #[]), .list 1 [iD (IntKind.i64.wrap (v0 * IntKind.i64.wrap (v1 + v2)))]]))))))) else some (.out 3 [.one (.tuple #[]), .one (.tuple #[])])))
def axial_L7_2_S (ka : Nat) (ca : List D) (kb : Nat) (cb : List D) (x0 : Nat) (x1 : List D) (x2 : Nat) (x3 : List D) : Go.Ev.Rd → Option Go.Ev.Rd
  | .next 0 ds => axial_L7_2_S0 ka ca kb cb x0 x1 x2 x3 ds
  | .next 1 ds => axial_L7_2_S1 ka ca kb cb x0 x1 x2 x3 ds
  | .next 2 ds => axial_L7_2_S2 ka ca kb cb x0 x1 x2 x3 ds
  | .next 3 ds => axial_L7_2_S3 ka ca kb cb x0 x1 x2 x3 ds
  | _ => none
theorem axial_L7_2_S_ok (ka : Nat) (ca : List D) (kb : Nat) (cb : List D) (x0 : Nat) (x1 : List D) (x2 : Nat) (x3 : List D) : ∀ s_ t_, axial_L7_2_S ka ca kb cb x0 x1 x2 x3 s_ = some t_ → Step (ctx [44, 67] axial_sp) Tabs axial_L7_2_A (stateOf (axial_L7_2_gs ka ca kb cb x0 x1 x2 x3 s_)) (stateOf (axial_L7_2_gs ka ca kb cb x0 x1 x2 x3 t_)) (axial_L7_2_ax t_) ∧ EndOK axial_L7_2_A.nx axial_L7_2_A.low (axial_L7_2_gs ka ca kb cb x0 x1 x2 x3) t_
  | .next 0 ds, t_, h => by
    have h_ : axial_L7_2_S0 ka ca kb cb x0 x1 x2 x3 ds = some t_ := h
    clear h
    unfold axial_L7_2_S0 at h_
    obtain ⟨⟨s19, s3_0n, s3_0c, s3_1n, s3_1c⟩, e0, h0⟩ := pullD_elim h_
    clear h_
    obtain rfl := tup_inj e0
    by_cases b1_ : s19 < (kb : Int)
    · have h2_ := (if_pos b1_).symm.trans h0
      obtain ⟨f3_, h4_⟩ := guardP_elim h2_
      obtain ⟨v0, f5_, h6_⟩ := pullD_elim h4_
      replace f5_ := readD_elim f5_
      obtain ⟨f7_, h8_⟩ := guardP_elim h6_
      obtain ⟨v1, f9_, h10_⟩ := pullD_elim h8_
      replace f9_ := readD_elim f9_
      obtain ⟨f11_, h12_⟩ := guardP_elim h10_
      obtain ⟨v2, f13_, h14_⟩ := pullD_elim h12_
      replace f13_ := readD_elim f13_
      obtain ⟨f15_, h16_⟩ := guardP_elim h14_
      obtain rfl := Option.some.inj h16_
      exact ⟨step_pc 3000 (bT 1 []) [iD v0, iD v1, iD v2] [c_d b1_, c_f f3_, c_f f5_, c_f f7_, c_f f9_, c_f f11_, c_f f13_, c_f f15_] [] _ rfl (by kernel_rfl) (by kernel_rfl) (by kernel_rfl) (by kernel_rfl) (by kernel_rfl) (by kernel_rfl), trivial⟩
    have h2_ := (if_neg b1_).symm.trans h0
    obtain rfl := Option.some.inj h2_
    exact ⟨step_pc 3000 (bF 1 []) [] [c_n b1_] [] _ rfl (by kernel_rfl) (by kernel_rfl) (by kernel_rfl) (by kernel_rfl) (by kernel_rfl) (by kernel_rfl), by kernel_rfl, by kernel_rfl⟩
  | .next 1 ds, t_, h => by
    have h_ : axial_L7_2_S1 ka ca kb cb x0 x1 x2 x3 ds = some t_ := h
    clear h
    unfold axial_L7_2_S1 at h_
    obtain ⟨⟨s19, s3_1n, s3_1c⟩, e0, h0⟩ := pullD_elim h_
    clear h_
    obtain rfl := tup_inj e0
    by_cases b1_ : s19 < (kb : Int)
    · have h2_ := (if_pos b1_).symm.trans h0
      obtain ⟨f3_, h4_⟩ := guardP_elim h2_
      obtain ⟨v0, f5_, h6_⟩ := pullD_elim h4_
      replace f5_ := readD_elim f5_
      obtain ⟨f7_, h8_⟩ := guardP_elim h6_
      obtain ⟨v1, f9_, h10_⟩ := pullD_elim h8_
      replace f9_ := readD_elim f9_
      obtain ⟨f11_, h12_⟩ := guardP_elim h10_
      obtain ⟨v2, f13_, h14_⟩ := pullD_elim h12_
      replace f13_ := readD_elim f13_
      obtain ⟨f15_, h16_⟩ := guardP_elim h14_
      obtain rfl := Option.some.inj h16_
      exact ⟨step_pc 3000 (bT 1 []) [iD v0, iD v1, iD v2] [c_d b1_, c_f f3_, c_f f5_, c_f f7_, c_f f9_, c_f f11_, c_f f13_, c_f f15_] [] _ rfl (by kernel_rfl) (by kernel_rfl) (by kernel_rfl) (by kernel_rfl) (by kernel_rfl) (by kernel_rfl), trivial⟩
    have h2_ := (if_neg b1_).symm.trans h0
    obtain rfl := Option.some.inj h2_
    exact ⟨step_pc 3000 (bF 1 []) [] [c_n b1_] [] _ rfl (by kernel_rfl) (by kernel_rfl) (by kernel_rfl) (by kernel_rfl) (by kernel_rfl) (by kernel_rfl), by kernel_rfl, by kernel_rfl⟩
  | .next 2 ds, t_, h => by
    have h_ : axial_L7_2_S2 ka ca kb cb x0 x1 x2 x3 ds = some t_ := h
    clear h
    unfold axial_L7_2_S2 at h_
    obtain ⟨⟨s19, s3_0n, s3_0c⟩, e0, h0⟩ := pullD_elim h_
    clear h_
    obtain rfl := tup_inj e0
    by_cases b1_ : s19 < (kb : Int)
    · have h2_ := (if_pos b1_).symm.trans h0
      obtain ⟨f3_, h4_⟩ := guardP_elim h2_
      obtain ⟨v0, f5_, h6_⟩ := pullD_elim h4_
      replace f5_ := readD_elim f5_
      obtain ⟨f7_, h8_⟩ := guardP_elim h6_
      obtain ⟨v1, f9_, h10_⟩ := pullD_elim h8_
      replace f9_ := readD_elim f9_
      obtain ⟨f11_, h12_⟩ := guardP_elim h10_
      obtain ⟨v2, f13_, h14_⟩ := pullD_elim h12_
      replace f13_ := readD_elim f13_
      obtain rfl := Option.some.inj h14_
      exact ⟨step_pc 3000 (bT 1 []) [iD v0, iD v1, iD v2] [c_d b1_, c_f f3_, c_f f5_, c_f f7_, c_f f9_, c_f f11_, c_f f13_, ⟨fact (0 < 0 + 1 ∧ (0 + 1) * 8 ≤ 140737488355328 ∧ 0 + 1 ≤ 4611686018427387904), true, fact_mk (by decide)⟩] [] _ rfl (by kernel_rfl) (by kernel_rfl) (by kernel_rfl) (by kernel_rfl) (by kernel_rfl) (by kernel_rfl), trivial⟩
    have h2_ := (if_neg b1_).symm.trans h0
    obtain rfl := Option.some.inj h2_
    exact ⟨step_pc 3000 (bF 1 []) [] [c_n b1_] [] _ rfl (by kernel_rfl) (by kernel_rfl) (by kernel_rfl) (by kernel_rfl) (by kernel_rfl) (by kernel_rfl), by kernel_rfl, by kernel_rfl⟩
  | .next 3 ds, t_, h => by
    have h_ : axial_L7_2_S3 ka ca kb cb x0 x1 x2 x3 ds = some t_ := h
    clear h
    unfold axial_L7_2_S3 at h_
    obtain ⟨s19, e0, h0⟩ := pullD_elim h_
    clear h_
    obtain rfl := tup_inj e0
    by_cases b1_ : s19 < (kb : Int)
    · have h2_ := (if_pos b1_).symm.trans h0
      obtain ⟨f3_, h4_⟩ := guardP_elim h2_
      obtain ⟨v0, f5_, h6_⟩ := pullD_elim h4_
      replace f5_ := readD_elim f5_
      obtain ⟨f7_, h8_⟩ := guardP_elim h6_
      obtain ⟨v1, f9_, h10_⟩ := pullD_elim h8_
      replace f9_ := readD_elim f9_
      obtain ⟨f11_, h12_⟩ := guardP_elim h10_
      obtain ⟨v2, f13_, h14_⟩ := pullD_elim h12_
      replace f13_ := readD_elim f13_
      obtain rfl := Option.some.inj h14_
      exact ⟨step_pc 3000 (bT 1 []) [iD v0, iD v1, iD v2] [c_d b1_, c_f f3_, c_f f5_, c_f f7_, c_f f9_, c_f f11_, c_f f13_, ⟨fact (0 < 0 + 1 ∧ (0 + 1) * 8 ≤ 140737488355328 ∧ 0 + 1 ≤ 4611686018427387904), true, fact_mk (by decide)⟩] [] _ rfl (by kernel_rfl) (by kernel_rfl) (by kernel_rfl) (by kernel_rfl) (by kernel_rfl) (by kernel_rfl), trivial⟩
    have h2_ := (if_neg b1_).symm.trans h0
    obtain rfl := Option.some.inj h2_
    exact ⟨step_pc 3000 (bF 1 []) [] [c_n b1_] [] _ rfl (by kernel_rfl) (by kernel_rfl) (by kernel_rfl) (by kernel_rfl) (by kernel_rfl) (by kernel_rfl), by kernel_rfl, by kernel_rfl⟩
  | .next (_ + 4) _, _, h => by cases h
  | .out _ _, _, h => by cases h
theorem axial_L7_2_go (ka : Nat) (ca : List D) (kb : Nat) (cb : List D) (x0 : Nat) (x1 : List D) (x2 : Nat) (x3 : List D) {q : Nat} {ds : List D} {j : Nat} {es : List D} (h : runR (axial_L7_2_S ka ca kb cb x0 x1 x2 x3) (.next q ds) = some (.out j es)) : Runs (ctx [44, 67] axial_sp) Tabs axial_L7_2_A (stateOf (axial_L7_2_gs ka ca kb cb x0 x1 x2 x3 (.next q ds))) (stateOf (axial_L7_2_gs ka ca kb cb x0 x1 x2 x3 (.out j es))) (axial_L7_2_ax (.out j es)) ∧ (nxtOf (axial_L7_2_gs ka ca kb cb x0 x1 x2 x3 (.out j es)), lowGS (axial_L7_2_gs ka ca kb cb x0 x1 x2 x3 (.out j es))) = (axial_L7_2_A.nx, axial_L7_2_A.low) :=
  runs_of' (good true _ _) axial_L7_2_ok (ax := axial_L7_2_ax) (fun _ _ => rfl) (fun _ _ => axOf_end _) (axial_L7_2_S_ok ka ca kb cb x0 x1 x2 x3) h
theorem axial_L7_2_in0 (ka : Nat) (ca : List D) (kb : Nat) (cb : List D) (x0 : Nat) (x1 : List D) (x2 : Nat) (x3 : List D) {es : List D} (h : runR (axial_L7_2_S ka ca kb cb x0 x1 x2 x3) (.next 1 [iD ((0 : Int)), .one (.tuple #[]), .list (x2) (x3)]) = some (.out 0 es)) : LoopC (loopAt Try.prog 44 1) (axial_L7_2_E ka ca kb cb x0 x1 x2 x3) 37 noFrame axial_x7_0 es :=
  have r := axial_L7_2_go ka ca kb cb x0 x1 x2 x3 h
  loopin_as rfl (loop_in (l := axial_L7_2_A) (E := (axial_L7_2_E ka ca kb cb x0 x1 x2 x3)) (S := stateOf (axial_L7_2_gs ka ca kb cb x0 x1 x2 x3 (.next 1 [iD ((0 : Int)), .one (.tuple #[]), .list (x2) (x3)]))) (ns := nsOf (axial_L7_2_gs ka ca kb cb x0 x1 x2 x3 (.next 1 [iD ((0 : Int)), .one (.tuple #[]), .list (x2) (x3)]))) axial_L7_2_ok r.1 r.2 (by kernel_rfl) (by kernel_rfl) (by kernel_rfl) (by kernel_rfl))
theorem axial_L7_2_in1 (ka : Nat) (ca : List D) (kb : Nat) (cb : List D) (x0 : Nat) (x1 : List D) (x2 : Nat) (x3 : List D) {es : List D} (h : runR (axial_L7_2_S ka ca kb cb x0 x1 x2 x3) (.next 1 [iD ((0 : Int)), .one (.tuple #[]), .list (x2) (x3)]) = some (.out 1 es)) : LoopC (loopAt Try.prog 44 1) (axial_L7_2_E ka ca kb cb x0 x1 x2 x3) 37 noFrame axial_x7_1 es :=
  have r := axial_L7_2_go ka ca kb cb x0 x1 x2 x3 h
  loopin_as rfl (loop_in (l := axial_L7_2_A) (E := (axial_L7_2_E ka ca kb cb x0 x1 x2 x3)) (S := stateOf (axial_L7_2_gs ka ca kb cb x0 x1 x2 x3 (.next 1 [iD ((0 : Int)), .one (.tuple #[]), .list (x2) (x3)]))) (ns := nsOf (axial_L7_2_gs ka ca kb cb x0 x1 x2 x3 (.next 1 [iD ((0 : Int)), .one (.tuple #[]), .list (x2) (x3)]))) axial_L7_2_ok r.1 r.2 (by kernel_rfl) (by kernel_rfl) (by kernel_rfl) (by kernel_rfl))
theorem axial_L7_2_in2 (ka : Nat) (ca : List D) (kb : Nat) (cb : List D) (x0 : Nat) (x1 : List D) (x2 : Nat) (x3 : List D) {es : List D} (h : runR (axial_L7_2_S ka ca kb cb x0 x1 x2 x3) (.next 1 [iD ((0 : Int)), .one (.tuple #[]), .list (x2) (x3)]) = some (.out 2 es)) : LoopC (loopAt Try.prog 44 1) (axial_L7_2_E ka ca kb cb x0 x1 x2 x3) 37 noFrame axial_x7_2 es :=
  have r := axial_L7_2_go ka ca kb cb x0 x1 x2 x3 h
  loopin_as rfl (loop_in (l := axial_L7_2_A) (E := (axial_L7_2_E ka ca kb cb x0 x1 x2 x3)) (S := stateOf (axial_L7_2_gs ka ca kb cb x0 x1 x2 x3 (.next 1 [iD ((0 : Int)), .one (.tuple #[]), .list (x2) (x3)]))) (ns := nsOf (axial_L7_2_gs ka ca kb cb x0 x1 x2 x3 (.next 1 [iD ((0 : Int)), .one (.tuple #[]), .list (x2) (x3)]))) axial_L7_2_ok r.1 r.2 (by kernel_rfl) (by kernel_rfl) (by kernel_rfl) (by kernel_rfl))
theorem axial_L7_2_in3 (ka : Nat) (ca : List D) (kb : Nat) (cb : List D) (x0 : Nat) (x1 : List D) (x2 : Nat) (x3 : List D) {es : List D} (h : runR (axial_L7_2_S ka ca kb cb x0 x1 x2 x3) (.next 1 [iD ((0 : Int)), .one (.tuple #[]), .list (x2) (x3)]) = some (.out 3 es)) : LoopC (loopAt Try.prog 44 1) (axial_L7_2_E ka ca kb cb x0 x1 x2 x3) 37 noFrame axial_x7_3 es :=
  have r := axial_L7_2_go ka ca kb cb x0 x1 x2 x3 h
  loopin_as rfl (loop_in (l := axial_L7_2_A) (E := (axial_L7_2_E ka ca kb cb x0 x1 x2 x3)) (S := stateOf (axial_L7_2_gs ka ca kb cb x0 x1 x2 x3 (.next 1 [iD ((0 : Int)), .one (.tuple #[]), .list (x2) (x3)]))) (ns := nsOf (axial_L7_2_gs ka ca kb cb x0 x1 x2 x3 (.next 1 [iD ((0 : Int)), .one (.tuple #[]), .list (x2) (x3)]))) axial_L7_2_ok r.1 r.2 (by kernel_rfl) (by kernel_rfl) (by kernel_rfl) (by kernel_rfl))
def axial_L7_1_E (ka : Nat) (ca : List D) (kb : Nat) (cb : List D) (x0 : Nat) (x1 : List D) (x2 : Nat) (x3 : List D) (x4 : Nat) (x5 : List D) : List AV × AHeap := ([.agg [.dsl 0, .dsl 1], .ptr 2 0, .ptr 3 0, .ptr 4 0, .dsl 5, .pure (.int .i64 (1 : Int)), .dsl 1, .any 10, .any 11, .agg [.dsl 0, .dsl 1], .dsl 5, .agg [.dsl 0, .dsl 1], .agg [.dsl 0, .dsl 1], .pure (.int .i64 (1 : Int)), .pure (.bool true), .pure (.int .i64 (1 : Int)), .dsl 1, .dsl 1, .pure (.int .i64 (kb : Int)), .pure (.int .i64 (0 : Int)), .any 13, .any 14, .any 15, .any 16, .any 17, .any 18, .any 19, .any 20, .any 21, .any 22, .any 23, .any 24, .any 25, .any 26, .any 27, .any 28, .any 29, .any 30, .any 31, .any 32, .any 33, .any 34, .any 35, .any 36, .pure (.int .i64 (1 : Int)), .pure (.tuple #[])], [(9, { cells := [], opn := some 1, kind := .big x5 }), (8, { cells := [], opn := some 1, kind := .big x3 }), (7, { cells := [.dsl 0, .dsl 1], opn := none, kind := .cells }), (6, { cells := [.dsl 0, .dsl 1], opn := none, kind := .cells }), (5, { cells := [], opn := none, kind := .deep x0 x1 }), (4, { cells := [.bslx 8 0 x2 0, .bslx 9 0 x4 0], opn := none, kind := .cells }), (3, { cells := [.pure (.slice none 0 0), .pure (.slice none 0 0)], opn := none, kind := .cells }), (2, { cells := [.dsl 0, .dsl 1], opn := none, kind := .cells }), (1, { cells := [], opn := none, kind := .deep kb cb }), (0, { cells := [], opn := none, kind := .deep ka ca })])
def axial_L7_1_A : LoopAt := ⟨44, loopAt Try.prog 44 1, 37, 66, 4, noFrame⟩
theorem axial_L7_1_ok : (axial_L7_1_A).OK := ⟨by show 37 ≤ 66; decide, by show 4 ≤ 37; decide, by kernel_rfl, rfl⟩
def axial_L7_1_gs (ka : Nat) (ca : List D) (kb : Nat) (cb : List D) (x0 : Nat) (x1 : List D) (x2 : Nat) (x3 : List D) (x4 : Nat) (x5 : List D) : Go.Ev.Rd → Option GS
  | .next 0 ds => ghost [.val 19, .cgrow 3 0 1, .cgrow 3 1 1] (7 :: (8 :: (List.range' 20 24))) (axial_L7_1_E ka ca kb cb x0 x1 x2 x3 x4 x5).1 (axial_L7_1_E ka ca kb cb x0 x1 x2 x3 x4 x5).2 37 ds
  | .next 1 ds => ghost [.val 19, .cnil 3 0, .cgrow 3 1 1] (7 :: (8 :: (List.range' 20 24))) (axial_L7_1_E ka ca kb cb x0 x1 x2 x3 x4 x5).1 (axial_L7_1_E ka ca kb cb x0 x1 x2 x3 x4 x5).2 37 ds
  | .next 2 ds => ghost [.val 19, .cgrow 3 0 1, .cnil 3 1] (7 :: (8 :: (List.range' 20 24))) (axial_L7_1_E ka ca kb cb x0 x1 x2 x3 x4 x5).1 (axial_L7_1_E ka ca kb cb x0 x1 x2 x3 x4 x5).2 37 ds
  | .next 3 ds => ghost [.val 19, .cnil 3 0, .cnil 3 1] (7 :: (8 :: (List.range' 20 24))) (axial_L7_1_E ka ca kb cb x0 x1 x2 x3 x4 x5).1 (axial_L7_1_E ka ca kb cb x0 x1 x2 x3 x4 x5).2 37 ds
  | .out 0 ds => ghost axial_x7_0.live axial_x7_0.junk (axial_L7_1_E ka ca kb cb x0 x1 x2 x3 x4 x5).1 (axial_L7_1_E ka ca kb cb x0 x1 x2 x3 x4 x5).2 37 ds
  | .out 1 ds => ghost axial_x7_1.live axial_x7_1.junk (axial_L7_1_E ka ca kb cb x0 x1 x2 x3 x4 x5).1 (axial_L7_1_E ka ca kb cb x0 x1 x2 x3 x4 x5).2 37 ds
  | .out 2 ds => ghost axial_x7_2.live axial_x7_2.junk (axial_L7_1_E ka ca kb cb x0 x1 x2 x3 x4 x5).1 (axial_L7_1_E ka ca kb cb x0 x1 x2 x3 x4 x5).2 37 ds
  | .out 3 ds => ghost axial_x7_3.live axial_x7_3.junk (axial_L7_1_E ka ca kb cb x0 x1 x2 x3 x4 x5).1 (axial_L7_1_E ka ca kb cb x0 x1 x2 x3 x4 x5).2 37 ds
  | _ => none
def axial_L7_1_ex : Nat → Option Nat
  | 0 => axial_x7_0.ex
  | 1 => axial_x7_1.ex
  | 2 => axial_x7_2.ex
  | 3 => axial_x7_3.ex
  | _ => none
def axial_L7_1_ax : Go.Ev.Rd → AX
  | .next _ _ => .normal
  | .out j _ => axOf (axial_L7_1_ex j)
def axial_L7_1_S0 (ka : Nat) (ca : List D) (kb : Nat) (cb : List D) (x0 : Nat) (x1 : List D) (x2 : Nat) (x3 : List D) (x4 : Nat) (x5 : List D) (ds : List D) : Option Go.Ev.Rd := pullD (α := Int × Nat × (List D) × Nat × (List D)) (some (.tup ds)) (fun d => ((D.vi (D.at d 0)), (D.ln (D.at d 1)), (D.lc (D.at d 1)), (D.ln (D.at d 2)), (D.lc (D.at d 2)))) (fun (s19, s3_0n, s3_0c, s3_1n, s3_1c) => .tup [iD s19, .list s3_0n s3_0c, .list s3_1n s3_1c]) fun (s19, s3_0n, s3_0c, s3_1n, s3_1c) => ((if s19 < (kb : Int) then guardP ((0 : Int) ≤ s19 ∧ s19.toNat < kb) (pullD (α := Int) (readD cb (s19.toNat * 1) 1 false) (fun d => ((D.vi d))) (fun v0 => iD v0) fun v0 => (guardP ((0 : Int) ≤ s19 ∧ s19.toNat < x0) (pullD (α := Int) (readD x1 (s19.toNat * 1) 1 false) (fun d => ((D.vi d))) (fun v1 => iD v1) fun v1 => (guardP ((0 : Int) ≤ IntKind.i64.wrap (s19 + (1 : Int)) ∧ (IntKind.i64.wrap (s19 + (1 : Int))).toNat < x0) (pullD (α := Int) (readD x1 ((IntKind.i64.wrap (s19 + (1 : Int))).toNat * 1) 1 false) (fun d => ((D.vi d))) (fun v2 => iD v2) fun v2 => (guardP ((∀ (u : D), u ∈ [dCell (.int .i64 (IntKind.i64.wrap (v0 * IntKind.i64.wrap (v1 + v2))))] → cellD u) ∧ s3_1n * 1 ≤ s3_1c.length ∧ (s3_1n + (0 + 1)) * 8 ≤ 140737488355328 ∧ s3_1n + (0 + 1) ≤ 4611686018427387904) (some (.next 0 [iD (IntKind.i64.wrap (s19 + (1 : Int))), .list s3_0n s3_0c, .list (s3_1n + (0 + 1)) (List.append (List.take (s3_1n * 1) s3_1c) [dCell (.int .i64 (IntKind.i64.wrap (v0 * IntKind.i64.wrap (v1 + v2))))])])))))))) else some (.out 0 [.list s3_0n s3_0c, .list s3_1n s3_1c])))
def axial_L7_1_S1 (ka : Nat) (ca : List D) (kb : Nat) (cb : List D) (x0 : Nat) (x1 : List D) (x2 : Nat) (x3 : List D) (x4 : Nat) (x5 : List D) (ds : List D) : Option Go.Ev.Rd := pullD (α := Int × Nat × (List D)) (some (.tup ds)) (fun d => ((D.vi (D.at d 0)), (D.ln (D.at d 2)), (D.lc (D.at d 2)))) (fun (s19, s3_1n, s3_1c) => .tup [iD s19, .one (.tuple #[]), .list s3_1n s3_1c]) fun (s19, s3_1n, s3_1c) => ((if s19 < (kb : Int) then guardP ((0 : Int) ≤ s19 ∧ s19.toNat < kb) (pullD (α := Int) (readD cb (s19.toNat * 1) 1 false) (fun d => ((D.vi d))) (fun v0 => iD v0) fun v0 => (guardP ((0 : Int) ≤ s19 ∧ s19.toNat < x0) (pullD (α := Int) (readD x1 (s19.toNat * 1) 1 false) (fun d => ((D.vi d))) (fun v1 => iD v1) fun v1 => (guardP ((0 : Int) ≤ IntKind.i64.wrap (s19 + (1 : Int)) ∧ (IntKind.i64.wrap (s19 + (1 : Int))).toNat < x0) (pullD (α := Int) (readD x1 ((IntKind.i64.wrap (s19 + (1 : Int))).toNat * 1) 1 false) (fun d => ((D.vi d))) (fun v2 => iD v2) fun v2 => (guardP ((∀ (u : D), u ∈ [dCell (.int .i64 (IntKind.i64.wrap (v0 * IntKind.i64.wrap (v1 + v2))))] → cellD u) ∧ s3_1n * 1 ≤ s3_1c.length ∧ (s3_1n + (0 + 1)) * 8 ≤ 140737488355328 ∧ s3_1n + (0 + 1) ≤ 4611686018427387904) (some (.next 1 [iD (IntKind.i64.wrap (s19 + (1 : Int))), .one (.tuple #[]), .list (s3_1n + (0 + 1)) (List.append (List.take (s3_1n * 1) s3_1c) [dCell (.int .i64 (IntKind.i64.wrap (v0 * IntKind.i64.wrap (v1 + v2))))])])))))))) else some (.out 1 [.one (.tuple #[]), .list s3_1n s3_1c])))
def axial_L7_1_S2 (ka : Nat) (ca : List D) (kb : Nat) (cb : List D) (x0 : Nat) (x1 : List D) (x2 : Nat) (x3 : List D) (x4 : Nat) (x5 : List D) (ds : List D) : Option Go.Ev.Rd := pullD (α := Int × Nat × (List D)) (some (.tup ds)) (fun d => ((D.vi (D.at d 0)), (D.ln (D.at d 1)), (D.lc (D.at d 1)))) (fun (s19, s3_0n, s3_0c) => .tup [iD s19, .list s3_0n s3_0c, .one (.tuple #[])]) fun (s19, s3_0n, s3_0c) => ((if s19 < (kb : Int) then guardP ((0 : Int) ≤ s19 ∧ s19.toNat < kb) (pullD (α := Int) (readD cb (s19.toNat * 1) 1 false) (fun d => ((D.vi d))) (fun v0 => iD v0) fun v0 => (guardP ((0 : Int) ≤ s19 ∧ s19.toNat < x0) (pullD (α := Int) (readD x1 (s19.toNat * 1) 1 false) (fun d => ((D.vi d))) (fun v1 => iD v1) fun v1 => (guardP ((0 : Int) ≤ IntKind.i64.wrap (s19 + (1 : Int)) ∧ (IntKind.i64.wrap (s19 + (1 : Int))).toNat < x0) (pullD (α := Int) (readD x1 ((IntKind.i64.wrap (s19 + (1 : Int))).toNat * 1) 1 false) (fun d => ((D.vi d))) (fun v2 => iD v2) fun v2 => (some (.next 0 [iD (IntKind.i64.wrap (s19 + (1 : Int))), .list s3_0n s3_0c, .list 1 [iD (IntKind.i64.wrap (v0 * IntKind.i64.wrap (v1 + v2)))]]))))))) else some (.out 2 [.list s3_0n s3_0c, .one (.tuple #[])])))
def axial_L7_1_S3 (ka : Nat) (ca : List D) (kb : Nat) (cb : List D) (x0 : Nat) (x1 : List D) (x2 : Nat) (x3 : List D) (x4 : Nat) (x5 : List D) (ds : List D) : Option Go.Ev.Rd := pullD (α := Int) (some (.tup ds)) (fun d => ((D.vi (D.at d 0)))) (fun s19 => .tup [iD s19, .one (.tuple #[]), .one (.tuple #[])]) fun s19 => ((if s19 < (kb : Int) then guardP ((0 : Int) ≤ s19 ∧ s19.toNat < kb) (pullD (α := Int) (readD cb (s19.toNat * 1) 1 false) (fun d => ((D.vi d))) (fun v0 => iD v0) fun v0 => (guardP ((0 : Int) ≤ s19 ∧ s19.toNat < x0) (pullD (α := Int) (readD x1 (s19.toNat * 1) 1 false) (fun d => ((D.vi d))) (fun v1 => iD v1) fun v1 => (guardP ((0 : Int) ≤ IntKind.i64.wrap (s19 + (1 : Int)) ∧ (IntKind.i64.wrap (s19 + (1 : Int))).toNat < x0) (pullD (α := Int) (readD x1 ((IntKind.i64.wrap (s19 + (1 : Int))).toNat * 1) 1 false) (fun d => ((D.vi d))) (fun v2 => iD v2) fun v2 => (some (.next 1 [iD (IntKind.i64.wrap (s19 + (1 : Int))), .one (.tuple #[]), .list 1 [iD (IntKind.i64.wrap (v0 * IntKind.i64.wrap (v1 + v2)))]]))))))) else some (.out 3 [.one (.tuple #[]), .one (.tuple #[])])))
def axial_L7_1_S (ka : Nat) (ca : List D) (kb : Nat) (cb : List D) (x0 : Nat) (x1 : List D) (x2 : Nat) (x3 : List D) (x4 : Nat) (x5 : List D) : Go.Ev.Rd → Option Go.Ev.Rd
  | .next 0 ds => axial_L7_1_S0 ka ca kb cb x0 x1 x2 x3 x4 x5 ds
  | .next 1 ds => axial_L7_1_S1 ka ca kb cb x0 x1 x2 x3 x4 x5 ds
  | .next 2 ds => axial_L7_1_S2 ka ca kb cb x0 x1 x2 x3 x4 x5 ds
  | .next 3 ds => axial_L7_1_S3 ka ca kb cb x0 x1 x2 x3 x4 x5 ds
  | _ => none
theorem axial_L7_1_S_ok (ka : Nat) (ca : List D) (kb : Nat) (cb : List D) (x0 : Nat) (x1 : List D) (x2 : Nat) (x3 : List D) (x4 : Nat) (x5 : List D) : ∀ s_ t_, axial_L7_1_S ka ca kb cb x0 x1 x2 x3 x4 x5 s_ = some t_ → Step (ctx [44, 67] axial_sp) Tabs axial_L7_1_A (stateOf (axial_L7_1_gs ka ca kb cb x0 x1 x2 x3 x4 x5 s_)) (stateOf (axial_L7_1_gs ka ca kb cb x0 x1 x2 x3 x4 x5 t_)) (axial_L7_1_ax t_) ∧ EndOK axial_L7_1_A.nx axial_L7_1_A.low (axial_L7_1_gs ka ca kb cb x0 x1 x2 x3 x4 x5) t_
  | .next 0 ds, t_, h => by
    have h_ : axial_L7_1_S0 ka ca kb cb x0 x1 x2 x3 x4 x5 ds = some t_ := h
    clear h
    unfold axial_L7_1_S0 at h_
    obtain ⟨⟨s19, s3_0n, s3_0c, s3_1n, s3_1c⟩, e0, h0⟩ := pullD_elim h_
    clear h_
    obtain rfl := tup_inj e0
    by_cases b1_ : s19 < (kb : Int)
    · have h2_ := (if_pos b1_).symm.trans h0
      obtain ⟨f3_, h4_⟩ := guardP_elim h2_
      obtain ⟨v0, f5_, h6_⟩ := pullD_elim h4_
      replace f5_ := readD_elim f5_
      obtain ⟨f7_, h8_⟩ := guardP_elim h6_
      obtain ⟨v1, f9_, h10_⟩ := pullD_elim h8_
      replace f9_ := readD_elim f9_
      obtain ⟨f11_, h12_⟩ := guardP_elim h10_
      obtain ⟨v2, f13_, h14_⟩ := pullD_elim h12_
      replace f13_ := readD_elim f13_
      obtain ⟨f15_, h16_⟩ := guardP_elim h14_
      obtain rfl := Option.some.inj h16_
      exact ⟨step_pc 3000 (bT 1 []) [iD v0, iD v1, iD v2] [c_d b1_, c_f f3_, c_f f5_, c_f f7_, c_f f9_, c_f f11_, c_f f13_, c_f f15_] [] _ rfl (by kernel_rfl) (by kernel_rfl) (by kernel_rfl) (by kernel_rfl) (by kernel_rfl) (by kernel_rfl), trivial⟩
    have h2_ := (if_neg b1_).symm.trans h0
    obtain rfl := Option.some.inj h2_
    exact ⟨step_pc 3000 (bF 1 []) [] [c_n b1_] [] _ rfl (by kernel_rfl) (by kernel_rfl) (by kernel_rfl) (by kernel_rfl) (by kernel_rfl) (by kernel_rfl), by kernel_rfl, by kernel_rfl⟩
  | .next 1 ds, t_, h => by
    have h_ : axial_L7_1_S1 ka ca kb cb x0 x1 x2 x3 x4 x5 ds = some t_ := h
    clear h
    unfold axial_L7_1_S1 at h_
    obtain ⟨⟨s19, s3_1n, s3_1c⟩, e0, h0⟩ := pullD_elim h_
    clear h_
    obtain rfl := tup_inj e0
    by_cases b1_ : s19 < (kb : Int)
    · have h2_ := (if_pos b1_).symm.trans h0
      obtain ⟨f3_, h4_⟩ := guardP_elim h2_
      obtain ⟨v0, f5_, h6_⟩ := pullD_elim h4_
      replace f5_ := readD_elim f5_
      obtain ⟨f7_, h8_⟩ := guardP_elim h6_
      obtain ⟨v1, f9_, h10_⟩ := pullD_elim h8_
      replace f9_ := readD_elim f9_
      obtain ⟨f11_, h12_⟩ := guardP_elim h10_
      obtain ⟨v2, f13_, h14_⟩ := pullD_elim h12_
      replace f13_ := readD_elim f13_
      obtain ⟨f15_, h16_⟩ := guardP_elim h14_
      obtain rfl := Option.some.inj h16_
      exact ⟨step_pc 3000 (bT 1 []) [iD v0, iD v1, iD v2] [c_d b1_, c_f f3_, c_f f5_, c_f f7_, c_f f9_, c_f f11_, c_f f13_, c_f f15_] [] _ rfl (by kernel_rfl) (by kernel_rfl) (by kernel_rfl) (by kernel_rfl) (by kernel_rfl) (by kernel_rfl), trivial⟩
    have h2_ := (if_neg b1_).symm.trans h0
    obtain rfl := Option.some.inj h2_
    exact ⟨step_pc 3000 (bF 1 []) [] [c_n b1_] [] _ rfl (by kernel_rfl) (by kernel_rfl) (by kernel_rfl) (by kernel_rfl) (by kernel_rfl) (by kernel_rfl), by kernel_rfl, by kernel_rfl⟩
  | .next 2 ds, t_, h => by
    have h_ : axial_L7_1_S2 ka ca kb cb x0 x1 x2 x3 x4 x5 ds = some t_ := h
    clear h
    unfold axial_L7_1_S2 at h_
    obtain ⟨⟨s19, s3_0n, s3_0c⟩, e0, h0⟩ := pullD_elim h_
    clear h_
    obtain rfl := tup_inj e0
    by_cases b1_ : s19 < (kb : Int)
    · have h2_ := (if_pos b1_).symm.trans h0
      obtain ⟨f3_, h4_⟩ := guardP_elim h2_
      obtain ⟨v0, f5_, h6_⟩ := pullD_elim h4_
      replace f5_ := readD_elim f5_
      obtain ⟨f7_, h8_⟩ := guardP_elim h6_
      obtain ⟨v1, f9_, h10_⟩ := pullD_elim h8_
      replace f9_ := readD_elim f9_
      obtain ⟨f11_, h12_⟩ := guardP_elim h10_
      obtain ⟨v2, f13_, h14_⟩ := pullD_elim h12_
      replace f13_ := readD_elim f13_
      obtain rfl := Option.some.inj h14_
      exact ⟨step_pc 3000 (bT 1 []) [iD v0, iD v1, iD v2] [c_d b1_, c_f f3_, c_f f5_, c_f f7_, c_f f9_, c_f f11_, c_f f13_, ⟨fact (0 < 0 + 1 ∧ (0 + 1) * 8 ≤ 140737488355328 ∧ 0 + 1 ≤ 4611686018427387904), true, fact_mk (by decide)⟩] [] _ rfl (by kernel_rfl) (by kernel_rfl) (by kernel_rfl) (by kernel_rfl) (by kernel_rfl) (by kernel_rfl), trivial⟩
    have h2_ := (if_neg b1_).symm.trans h0
    obtain rfl := Option.some.inj h2_
    exact ⟨step_pc 3000 (bF 1 []) [] [c_n b1_] [] _ rfl (by kernel_rfl) (by kernel_rfl) (by kernel_rfl) (by kernel_rfl) (by kernel_rfl) (by kernel_rfl), by kernel_rfl, by kernel_rfl⟩
  | .next 3 ds, t_, h => by
    have h_ : axial_L7_1_S3 ka ca kb cb x0 x1 x2 x3 x4 x5 ds = some t_ := h
    clear h
    unfold axial_L7_1_S3 at h_
    obtain ⟨s19, e0, h0⟩ := pullD_elim h_
    clear h_
    obtain rfl := tup_inj e0
    by_cases b1_ : s19 < (kb : Int)
    · have h2_ := (if_pos b1_).symm.trans h0
      obtain ⟨f3_, h4_⟩ := guardP_elim h2_
      obtain ⟨v0, f5_, h6_⟩ := pullD_elim h4_
      replace f5_ := readD_elim f5_
      obtain ⟨f7_, h8_⟩ := guardP_elim h6_
      obtain ⟨v1, f9_, h10_⟩ := pullD_elim h8_
      replace f9_ := readD_elim f9_
      obtain ⟨f11_, h12_⟩ := guardP_elim h10_
      obtain ⟨v2, f13_, h14_⟩ := pullD_elim h12_
      replace f13_ := readD_elim f13_
      obtain rfl := Option.some.inj h14_
      exact ⟨step_pc 3000 (bT 1 []) [iD v0, iD v1, iD v2] [c_d b1_, c_f f3_, c_f f5_, c_f f7_, c_f f9_, c_f f11_, c_f f13_, ⟨fact (0 < 0 + 1 ∧ (0 + 1) * 8 ≤ 140737488355328 ∧ 0 + 1 ≤ 4611686018427387904), true, fact_mk (by decide)⟩] [] _ rfl (by kernel_rfl) (by kernel_rfl) (by kernel_rfl) (by kernel_rfl) (by kernel_rfl) (by kernel_rfl), trivial⟩
    have h2_ := (if_neg b1_).symm.trans h0
    obtain rfl := Option.some.inj h2_
    exact ⟨step_pc 3000 (bF 1 []) [] [c_n b1_] [] _ rfl (by kernel_rfl) (by kernel_rfl) (by kernel_rfl) (by kernel_rfl) (by kernel_rfl) (by kernel_rfl), by kernel_rfl, by kernel_rfl⟩
  | .next (_ + 4) _, _, h => by cases h
  | .out _ _, _, h => by cases h
theorem axial_L7_1_go (ka : Nat) (ca : List D) (kb : Nat) (cb : List D) (x0 : Nat) (x1 : List D) (x2 : Nat) (x3 : List D) (x4 : Nat) (x5 : List D) {q : Nat} {ds : List D} {j : Nat} {es : List D} (h : runR (axial_L7_1_S ka ca kb cb x0 x1 x2 x3 x4 x5) (.next q ds) = some (.out j es)) : Runs (ctx [44, 67] axial_sp) Tabs axial_L7_1_A (stateOf (axial_L7_1_gs ka ca kb cb x0 x1 x2 x3 x4 x5 (.next q ds))) (stateOf (axial_L7_1_gs ka ca kb cb x0 x1 x2 x3 x4 x5 (.out j es))) (axial_L7_1_ax (.out j es)) ∧ (nxtOf (axial_L7_1_gs ka ca kb cb x0 x1 x2 x3 x4 x5 (.out j es)), lowGS (axial_L7_1_gs ka ca kb cb x0 x1 x2 x3 x4 x5 (.out j es))) = (axial_L7_1_A.nx, axial_L7_1_A.low) :=
  runs_of' (good true _ _) axial_L7_1_ok (ax := axial_L7_1_ax) (fun _ _ => rfl) (fun _ _ => axOf_end _) (axial_L7_1_S_ok ka ca kb cb x0 x1 x2 x3 x4 x5) h
theorem axial_L7_1_in0 (ka : Nat) (ca : List D) (kb : Nat) (cb : List D) (x0 : Nat) (x1 : List D) (x2 : Nat) (x3 : List D) (x4 : Nat) (x5 : List D) {es : List D} (h : runR (axial_L7_1_S ka ca kb cb x0 x1 x2 x3 x4 x5) (.next 0 [iD ((0 : Int)), .list (x2) (x3), .list (x4) (x5)]) = some (.out 0 es)) : LoopC (loopAt Try.prog 44 1) (axial_L7_1_E ka ca kb cb x0 x1 x2 x3 x4 x5) 37 noFrame axial_x7_0 es :=
  have r := axial_L7_1_go ka ca kb cb x0 x1 x2 x3 x4 x5 h
  loopin_as rfl (loop_in (l := axial_L7_1_A) (E := (axial_L7_1_E ka ca kb cb x0 x1 x2 x3 x4 x5)) (S := stateOf (axial_L7_1_gs ka ca kb cb x0 x1 x2 x3 x4 x5 (.next 0 [iD ((0 : Int)), .list (x2) (x3), .list (x4) (x5)]))) (ns := nsOf (axial_L7_1_gs ka ca kb cb x0 x1 x2 x3 x4 x5 (.next 0 [iD ((0 : Int)), .list (x2) (x3), .list (x4) (x5)]))) axial_L7_1_ok r.1 r.2 (by kernel_rfl) (by kernel_rfl) (by kernel_rfl) (by kernel_rfl))
theorem axial_L7_1_in1 (ka : Nat) (ca : List D) (kb : Nat) (cb : List D) (x0 : Nat) (x1 : List D) (x2 : Nat) (x3 : List D) (x4 : Nat) (x5 : List D) {es : List D} (h : runR (axial_L7_1_S ka ca kb cb x0 x1 x2 x3 x4 x5) (.next 0 [iD ((0 : Int)), .list (x2) (x3), .list (x4) (x5)]) = some (.out 1 es)) : LoopC (loopAt Try.prog 44 1) (axial_L7_1_E ka ca kb cb x0 x1 x2 x3 x4 x5) 37 noFrame axial_x7_1 es :=
  have r := axial_L7_1_go ka ca kb cb x0 x1 x2 x3 x4 x5 h
  loopin_as rfl (loop_in (l := axial_L7_1_A) (E := (axial_L7_1_E ka ca kb cb x0 x1 x2 x3 x4 x5)) (S := stateOf (axial_L7_1_gs ka ca kb cb x0 x1 x2 x3 x4 x5 (.next 0 [iD ((0 : Int)), .list (x2) (x3), .list (x4) (x5)]))) (ns := nsOf (axial_L7_1_gs ka ca kb cb x0 x1 x2 x3 x4 x5 (.next 0 [iD ((0 : Int)), .list (x2) (x3), .list (x4) (x5)]))) axial_L7_1_ok r.1 r.2 (by kernel_rfl) (by kernel_rfl) (by kernel_rfl) (by kernel_rfl))
theorem axial_L7_1_in2 (ka : Nat) (ca : List D) (kb : Nat) (cb : List D) (x0 : Nat) (x1 : List D) (x2 : Nat) (x3 : List D) (x4 : Nat) (x5 : List D) {es : List D} (h : runR (axial_L7_1_S ka ca kb cb x0 x1 x2 x3 x4 x5) (.next 0 [iD ((0 : Int)), .list (x2) (x3), .list (x4) (x5)]) = some (.out 2 es)) : LoopC (loopAt Try.prog 44 1) (axial_L7_1_E ka ca kb cb x0 x1 x2 x3 x4 x5) 37 noFrame axial_x7_2 es :=
  have r := axial_L7_1_go ka ca kb cb x0 x1 x2 x3 x4 x5 h
  loopin_as rfl (loop_in (l := axial_L7_1_A) (E := (axial_L7_1_E ka ca kb cb x0 x1 x2 x3 x4 x5)) (S := stateOf (axial_L7_1_gs ka ca kb cb x0 x1 x2 x3 x4 x5 (.next 0 [iD ((0 : Int)), .list (x2) (x3), .list (x4) (x5)]))) (ns := nsOf (axial_L7_1_gs ka ca kb cb x0 x1 x2 x3 x4 x5 (.next 0 [iD ((0 : Int)), .list (x2) (x3), .list (x4) (x5)]))) axial_L7_1_ok r.1 r.2 (by kernel_rfl) (by kernel_rfl) (by kernel_rfl) (by kernel_rfl))
theorem axial_L7_1_in3 (ka : Nat) (ca : List D) (kb : Nat) (cb : List D) (x0 : Nat) (x1 : List D) (x2 : Nat) (x3 : List D) (x4 : Nat) (x5 : List D) {es : List D} (h : runR (axial_L7_1_S ka ca kb cb x0 x1 x2 x3 x4 x5) (.next 0 [iD ((0 : Int)), .list (x2) (x3), .list (x4) (x5)]) = some (.out 3 es)) : LoopC (loopAt Try.prog 44 1) (axial_L7_1_E ka ca kb cb x0 x1 x2 x3 x4 x5) 37 noFrame axial_x7_3 es :=
  have r := axial_L7_1_go ka ca kb cb x0 x1 x2 x3 x4 x5 h
  loopin_as rfl (loop_in (l := axial_L7_1_A) (E := (axial_L7_1_E ka ca kb cb x0 x1 x2 x3 x4 x5)) (S := stateOf (axial_L7_1_gs ka ca kb cb x0 x1 x2 x3 x4 x5 (.next 0 [iD ((0 : Int)), .list (x2) (x3), .list (x4) (x5)]))) (ns := nsOf (axial_L7_1_gs ka ca kb cb x0 x1 x2 x3 x4 x5 (.next 0 [iD ((0 : Int)), .list (x2) (x3), .list (x4) (x5)]))) axial_L7_1_ok r.1 r.2 (by kernel_rfl) (by kernel_rfl) (by kernel_rfl) (by kernel_rfl))
def axial_L7_E (ka : Nat) (ca : List D) (kb : Nat) (cb : List D) (x0 : Nat) (x1 : List D) : List AV × AHeap := ([.agg [.dsl 0, .dsl 1], .ptr 2 0, .ptr 3 0, .ptr 4 0, .dsl 5, .pure (.int .i64 (0 : Int)), .dsl 0, .pure (.tuple #[]), .pure (.tuple #[]), .agg [.dsl 0, .dsl 1], .dsl 5, .agg [.dsl 0, .dsl 1], .agg [.dsl 0, .dsl 1], .pure (.int .i64 (0 : Int)), .pure (.bool true), .pure (.int .i64 (0 : Int)), .dsl 0, .dsl 0, .pure (.int .i64 (ka : Int)), .pure (.int .i64 (0 : Int)), .pure (.tuple #[]), .pure (.tuple #[]), .pure (.tuple #[]), .pure (.tuple #[]), .pure (.tuple #[]), .pure (.tuple #[]), .pure (.tuple #[]), .pure (.tuple #[]), .pure (.tuple #[]), .pure (.tuple #[]), .pure (.tuple #[]), .pure (.tuple #[]), .pure (.tuple #[]), .pure (.tuple #[]), .pure (.tuple #[]), .pure (.tuple #[]), .pure (.tuple #[]), .pure (.tuple #[]), .pure (.tuple #[]), .pure (.tuple #[]), .pure (.tuple #[]), .pure (.tuple #[]), .pure (.tuple #[]), .pure (.tuple #[]), .pure (.tuple #[]), .pure (.tuple #[])], [(7, { cells := [.dsl 0, .dsl 1], opn := none, kind := .cells }), (6, { cells := [.dsl 0, .dsl 1], opn := none, kind := .cells }), (5, { cells := [], opn := none, kind := .deep x0 x1 }), (4, { cells := [.pure (.slice none 0 0), .pure (.slice none 0 0)], opn := none, kind := .cells }), (3, { cells := [.pure (.slice none 0 0), .pure (.slice none 0 0)], opn := none, kind := .cells }), (2, { cells := [.dsl 0, .dsl 1], opn := none, kind := .cells }), (1, { cells := [], opn := none, kind := .deep kb cb }), (0, { cells := [], opn := none, kind := .deep ka ca })])
def axial_L7_A : LoopAt := ⟨44, loopAt Try.prog 44 1, 8, 37, 4, noFrame⟩
theorem axial_L7_ok : (axial_L7_A).OK := ⟨by show 8 ≤ 37; decide, by show 4 ≤ 8; decide, by kernel_rfl, rfl⟩
def axial_L7_gs (ka : Nat) (ca : List D) (kb : Nat) (cb : List D) (x0 : Nat) (x1 : List D) : Go.Ev.Rd → Option GS
  | .next 0 ds => ghost [.val 19, .cgrow 3 0 1, .cgrow 3 1 1] (7 :: (8 :: (List.range' 20 24))) (axial_L7_E ka ca kb cb x0 x1).1 (axial_L7_E ka ca kb cb x0 x1).2 8 ds
  | .next 1 ds => ghost [.val 19, .cnil 3 0, .cgrow 3 1 1] (7 :: (8 :: (List.range' 20 24))) (axial_L7_E ka ca kb cb x0 x1).1 (axial_L7_E ka ca kb cb x0 x1).2 8 ds
  | .next 2 ds => ghost [.val 19, .cgrow 3 0 1, .cnil 3 1] (7 :: (8 :: (List.range' 20 24))) (axial_L7_E ka ca kb cb x0 x1).1 (axial_L7_E ka ca kb cb x0 x1).2 8 ds
  | .next 3 ds => ghost [.val 19, .cnil 3 0, .cnil 3 1] (7 :: (8 :: (List.range' 20 24))) (axial_L7_E ka ca kb cb x0 x1).1 (axial_L7_E ka ca kb cb x0 x1).2 8 ds
  | .out 0 ds => ghost axial_x7_0.live axial_x7_0.junk (axial_L7_E ka ca kb cb x0 x1).1 (axial_L7_E ka ca kb cb x0 x1).2 8 ds
  | .out 1 ds => ghost axial_x7_1.live axial_x7_1.junk (axial_L7_E ka ca kb cb x0 x1).1 (axial_L7_E ka ca kb cb x0 x1).2 8 ds
  | .out 2 ds => ghost axial_x7_2.live axial_x7_2.junk (axial_L7_E ka ca kb cb x0 x1).1 (axial_L7_E ka ca kb cb x0 x1).2 8 ds
  | .out 3 ds => ghost axial_x7_3.live axial_x7_3.junk (axial_L7_E ka ca kb cb x0 x1).1 (axial_L7_E ka ca kb cb x0 x1).2 8 ds
  | _ => none
def axial_L7_ex : Nat → Option Nat
  | 0 => axial_x7_0.ex
  | 1 => axial_x7_1.ex
  | 2 => axial_x7_2.ex
  | 3 => axial_x7_3.ex
  | _ => none
def axial_L7_ax : Go.Ev.Rd → AX
  | .next _ _ => .normal
  | .out j _ => axOf (axial_L7_ex j)
def axial_L7_S0 (ka : Nat) (ca : List D) (kb : Nat) (cb : List D) (x0 : Nat) (x1 : List D) (ds : List D) : Option Go.Ev.Rd := pullD (α := Int × Nat × (List D) × Nat × (List D)) (some (.tup ds)) (fun d => ((D.vi (D.at d 0)), (D.ln (D.at d 1)), (D.lc (D.at d 1)), (D.ln (D.at d 2)), (D.lc (D.at d 2)))) (fun (s19, s3_0n, s3_0c, s3_1n, s3_1c) => .tup [iD s19, .list s3_0n s3_0c, .list s3_1n s3_1c]) fun (s19, s3_0n, s3_0c, s3_1n, s3_1c) => ((if s19 < (ka : Int) then guardP ((0 : Int) ≤ s19 ∧ s19.toNat < ka) (pullD (α := Int) (readD ca (s19.toNat * 1) 1 false) (fun d => ((D.vi d))) (fun v0 => iD v0) fun v0 => (guardP ((0 : Int) ≤ s19 ∧ s19.toNat < x0) (pullD (α := Int) (readD x1 (s19.toNat * 1) 1 false) (fun d => ((D.vi d))) (fun v1 => iD v1) fun v1 => (guardP ((0 : Int) ≤ IntKind.i64.wrap (s19 + (1 : Int)) ∧ (IntKind.i64.wrap (s19 + (1 : Int))).toNat < x0) (pullD (α := Int) (readD x1 ((IntKind.i64.wrap (s19 + (1 : Int))).toNat * 1) 1 false) (fun d => ((D.vi d))) (fun v2 => iD v2) fun v2 => (guardP ((∀ (u : D), u ∈ [dCell (.int .i64 (IntKind.i64.wrap (v0 * IntKind.i64.wrap (v1 + v2))))] → cellD u) ∧ s3_0n * 1 ≤ s3_0c.length ∧ (s3_0n + (0 + 1)) * 8 ≤ 140737488355328 ∧ s3_0n + (0 + 1) ≤ 4611686018427387904) (some (.next 0 [iD (IntKind.i64.wrap (s19 + (1 : Int))), .list (s3_0n + (0 + 1)) (List.append (List.take (s3_0n * 1) s3_0c) [dCell (.int .i64 (IntKind.i64.wrap (v0 * IntKind.i64.wrap (v1 + v2))))]), .list s3_1n s3_1c])))))))) else some (.out 0 [.list s3_0n s3_0c, .list s3_1n s3_1c])))
def axial_L7_S1 (ka : Nat) (ca : List D) (kb : Nat) (cb : List D) (x0 : Nat) (x1 : List D) (ds : List D) : Option Go.Ev.Rd := pullD (α := Int × Nat × (List D)) (some (.tup ds)) (fun d => ((D.vi (D.at d 0)), (D.ln (D.at d 2)), (D.lc (D.at d 2)))) (fun (s19, s3_1n, s3_1c) => .tup [iD s19, .one (.tuple #[]), .list s3_1n s3_1c]) fun (s19, s3_1n, s3_1c) => ((if s19 < (ka : Int) then guardP ((0 : Int) ≤ s19 ∧ s19.toNat < ka) (pullD (α := Int) (readD ca (s19.toNat * 1) 1 false) (fun d => ((D.vi d))) (fun v0 => iD v0) fun v0 => (guardP ((0 : Int) ≤ s19 ∧ s19.toNat < x0) (pullD (α := Int) (readD x1 (s19.toNat * 1) 1 false) (fun d => ((D.vi d))) (fun v1 => iD v1) fun v1 => (guardP ((0 : Int) ≤ IntKind.i64.wrap (s19 + (1 : Int)) ∧ (IntKind.i64.wrap (s19 + (1 : Int))).toNat < x0) (pullD (α := Int) (readD x1 ((IntKind.i64.wrap (s19 + (1 : Int))).toNat * 1) 1 false) (fun d => ((D.vi d))) (fun v2 => iD v2) fun v2 => (some (.next 0 [iD (IntKind.i64.wrap (s19 + (1 : Int))), .list 1 [iD (IntKind.i64.wrap (v0 * IntKind.i64.wrap (v1 + v2)))], .list s3_1n s3_1c]))))))) else some (.out 1 [.one (.tuple #[]), .list s3_1n s3_1c])))
def axial_L7_S2 (ka : Nat) (ca : List D) (kb : Nat) (cb : List D) (x0 : Nat) (x1 : List D) (ds : List D) : Option Go.Ev.Rd := pullD (α := Int × Nat × (List D)) (some (.tup ds)) (fun d => ((D.vi (D.at d 0)), (D.ln (D.at d 1)), (D.lc (D.at d 1)))) (fun (s19, s3_0n, s3_0c) => .tup [iD s19, .list s3_0n s3_0c, .one (.tuple #[])]) fun (s19, s3_0n, s3_0c) => ((if s19 < (ka : Int) then guardP ((0 : Int) ≤ s19 ∧ s19.toNat < ka) (pullD (α := Int) (readD ca (s19.toNat * 1) 1 false) (fun d => ((D.vi d))) (fun v0 => iD v0) fun v0 => (guardP ((0 : Int) ≤ s19 ∧ s19.toNat < x0) (pullD (α := Int) (readD x1 (s19.toNat * 1) 1 false) (fun d => ((D.vi d))) (fun v1 => iD v1) fun v1 => (guardP ((0 : Int) ≤ IntKind.i64.wrap (s19 + (1 : Int)) ∧ (IntKind.i64.wrap (s19 + (1 : Int))).toNat < x0) (pullD (α := Int) (readD x1 ((IntKind.i64.wrap (s19 + (1 : Int))).toNat * 1) 1 false) (fun d => ((D.vi d))) (fun v2 => iD v2) fun v2 => (guardP ((∀ (u : D), u ∈ [dCell (.int .i64 (IntKind.i64.wrap (v0 * IntKind.i64.wrap (v1 + v2))))] → cellD u) ∧ s3_0n * 1 ≤ s3_0c.length ∧ (s3_0n + (0 + 1)) * 8 ≤ 140737488355328 ∧ s3_0n + (0 + 1) ≤ 4611686018427387904) (some (.next 2 [iD (IntKind.i64.wrap (s19 + (1 : Int))), .list (s3_0n + (0 + 1)) (List.append (List.take (s3_0n * 1) s3_0c) [dCell (.int .i64 (IntKind.i64.wrap (v0 * IntKind.i64.wrap (v1 + v2))))]), .one (.tuple #[])])))))))) else some (.out 2 [.list s3_0n s3_0c, .one (.tuple #[])])))
def axial_L7_S3 (ka : Nat) (ca : List D) (kb : Nat) (cb : List D) (x0 : Nat) (x1 : List D) (ds : List D) : Option Go.Ev.Rd := pullD (α := Int) (some (.tup ds)) (fun d => ((D.vi (D.at d 0)))) (fun s19 => .tup [iD s19, .one (.tuple #[]), .one (.tuple #[])]) fun s19 => ((if s19 < (ka : Int) then guardP ((0 : Int) ≤ s19 ∧ s19.toNat < ka) (pullD (α := Int) (readD ca (s19.toNat * 1) 1 false) (fun d => ((D.vi d))) (fun v0 => iD v0) fun v0 => (guardP ((0 : Int) ≤ s19 ∧ s19.toNat < x0) (pullD (α := Int) (readD x1 (s19.toNat * 1) 1 false) (fun d => ((D.vi d))) (fun v1 => iD v1) fun v1 => (guardP ((0 : Int) ≤ IntKind.i64.wrap (s19 + (1 : Int)) ∧ (IntKind.i64.wrap (s19 + (1 : Int))).toNat < x0) (pullD (α := Int) (readD x1 ((IntKind.i64.wrap (s19 + (1 : Int))).toNat * 1) 1 false) (fun d => ((D.vi d))) (fun v2 => iD v2) fun v2 => (some (.next 2 [iD (IntKind.i64.wrap (s19 + (1 : Int))), .list 1 [iD (IntKind.i64.wrap (v0 * IntKind.i64.wrap (v1 + v2)))], .one (.tuple #[])]))))))) else some (.out 3 [.one (.tuple #[]), .one (.tuple #[])])))
def axial_L7_S (ka : Nat) (ca : List D) (kb : Nat) (cb : List D) (x0 : Nat) (x1 : List D) : Go.Ev.Rd → Option Go.Ev.Rd
  | .next 0 ds => axial_L7_S0 ka ca kb cb x0 x1 ds
  | .next 1 ds => axial_L7_S1 ka ca kb cb x0 x1 ds
  | .next 2 ds => axial_L7_S2 ka ca kb cb x0 x1 ds
  | .next 3 ds => axial_L7_S3 ka ca kb cb x0 x1 ds
  | _ => none
theorem axial_L7_S_ok (ka : Nat) (ca : List D) (kb : Nat) (cb : List D) (x0 : Nat) (x1 : List D) : ∀ s_ t_, axial_L7_S ka ca kb cb x0 x1 s_ = some t_ → Step (ctx [44, 67] axial_sp) Tabs axial_L7_A (stateOf (axial_L7_gs ka ca kb cb x0 x1 s_)) (stateOf (axial_L7_gs ka ca kb cb x0 x1 t_)) (axial_L7_ax t_) ∧ EndOK axial_L7_A.nx axial_L7_A.low (axial_L7_gs ka ca kb cb x0 x1) t_
  | .next 0 ds, t_, h => by
    have h_ : axial_L7_S0 ka ca kb cb x0 x1 ds = some t_ := h
    clear h
    unfold axial_L7_S0 at h_
    obtain ⟨⟨s19, s3_0n, s3_0c, s3_1n, s3_1c⟩, e0, h0⟩ := pullD_elim h_
    clear h_
    obtain rfl := tup_inj e0
    by_cases b1_ : s19 < (ka : Int)
    · have h2_ := (if_pos b1_).symm.trans h0
      obtain ⟨f3_, h4_⟩ := guardP_elim h2_
      obtain ⟨v0, f5_, h6_⟩ := pullD_elim h4_
      replace f5_ := readD_elim f5_
      obtain ⟨f7_, h8_⟩ := guardP_elim h6_
      obtain ⟨v1, f9_, h10_⟩ := pullD_elim h8_
      replace f9_ := readD_elim f9_
      obtain ⟨f11_, h12_⟩ := guardP_elim h10_
      obtain ⟨v2, f13_, h14_⟩ := pullD_elim h12_
      replace f13_ := readD_elim f13_
      obtain ⟨f15_, h16_⟩ := guardP_elim h14_
      obtain rfl := Option.some.inj h16_
      exact ⟨step_pc 3000 (bT 1 []) [iD v0, iD v1, iD v2] [c_d b1_, c_f f3_, c_f f5_, c_f f7_, c_f f9_, c_f f11_, c_f f13_, c_f f15_] [] _ rfl (by kernel_rfl) (by kernel_rfl) (by kernel_rfl) (by kernel_rfl) (by kernel_rfl) (by kernel_rfl), trivial⟩
    have h2_ := (if_neg b1_).symm.trans h0
    obtain rfl := Option.some.inj h2_
    exact ⟨step_pc 3000 (bF 1 []) [] [c_n b1_] [] _ rfl (by kernel_rfl) (by kernel_rfl) (by kernel_rfl) (by kernel_rfl) (by kernel_rfl) (by kernel_rfl), by kernel_rfl, by kernel_rfl⟩
  | .next 1 ds, t_, h => by
    have h_ : axial_L7_S1 ka ca kb cb x0 x1 ds = some t_ := h
    clear h
    unfold axial_L7_S1 at h_
    obtain ⟨⟨s19, s3_1n, s3_1c⟩, e0, h0⟩ := pullD_elim h_
    clear h_
    obtain rfl := tup_inj e0
    by_cases b1_ : s19 < (ka : Int)
    · have h2_ := (if_pos b1_).symm.trans h0
      obtain ⟨f3_, h4_⟩ := guardP_elim h2_
      obtain ⟨v0, f5_, h6_⟩ := pullD_elim h4_
      replace f5_ := readD_elim f5_
      obtain ⟨f7_, h8_⟩ := guardP_elim h6_
      obtain ⟨v1, f9_, h10_⟩ := pullD_elim h8_
      replace f9_ := readD_elim f9_
      obtain ⟨f11_, h12_⟩ := guardP_elim h10_
      obtain ⟨v2, f13_, h14_⟩ := pullD_elim h12_
      replace f13_ := readD_elim f13_
      obtain rfl := Option.some.inj h14_
      exact ⟨step_pc 3000 (bT 1 []) [iD v0, iD v1, iD v2] [c_d b1_, c_f f3_, c_f f5_, c_f f7_, c_f f9_, c_f f11_, c_f f13_, ⟨fact (0 < 0 + 1 ∧ (0 + 1) * 8 ≤ 140737488355328 ∧ 0 + 1 ≤ 4611686018427387904), true, fact_mk (by decide)⟩] [] _ rfl (by kernel_rfl) (by kernel_rfl) (by kernel_rfl) (by kernel_rfl) (by kernel_rfl) (by kernel_rfl), trivial⟩
    have h2_ := (if_neg b1_).symm.trans h0
    obtain rfl := Option.some.inj h2_
    exact ⟨step_pc 3000 (bF 1 []) [] [c_n b1_] [] _ rfl (by kernel_rfl) (by kernel_rfl) (by kernel_rfl) (by kernel_rfl) (by kernel_rfl) (by kernel_rfl), by kernel_rfl, by kernel_rfl⟩
  | .next 2 ds, t_, h => by
    have h_ : axial_L7_S2 ka ca kb cb x0 x1 ds = some t_ := h
    clear h
    unfold axial_L7_S2 at h_
    obtain ⟨⟨s19, s3_0n, s3_0c⟩, e0, h0⟩ := pullD_elim h_
    clear h_
    obtain rfl := tup_inj e0
    by_cases b1_ : s19 < (ka : Int)
    · have h2_ := (if_pos b1_).symm.trans h0
      obtain ⟨f3_, h4_⟩ := guardP_elim h2_
      obtain ⟨v0, f5_, h6_⟩ := pullD_elim h4_
      replace f5_ := readD_elim f5_
      obtain ⟨f7_, h8_⟩ := guardP_elim h6_
      obtain ⟨v1, f9_, h10_⟩ := pullD_elim h8_
      replace f9_ := readD_elim f9_
      obtain ⟨f11_, h12_⟩ := guardP_elim h10_
      obtain ⟨v2, f13_, h14_⟩ := pullD_elim h12_
      replace f13_ := readD_elim f13_
      obtain ⟨f15_, h16_⟩ := guardP_elim h14_
      obtain rfl := Option.some.inj h16_
      exact ⟨step_pc 3000 (bT 1 []) [iD v0, iD v1, iD v2] [c_d b1_, c_f f3_, c_f f5_, c_f f7_, c_f f9_, c_f f11_, c_f f13_, c_f f15_] [] _ rfl (by kernel_rfl) (by kernel_rfl) (by kernel_rfl) (by kernel_rfl) (by kernel_rfl) (by kernel_rfl), trivial⟩
    have h2_ := (if_neg b1_).symm.trans h0
    obtain rfl := Option.some.inj h2_
    exact ⟨step_pc 3000 (bF 1 []) [] [c_n b1_] [] _ rfl (by kernel_rfl) (by kernel_rfl) (by kernel_rfl) (by kernel_rfl) (by kernel_rfl) (by kernel_rfl), by kernel_rfl, by kernel_rfl⟩
  | .next 3 ds, t_, h => by
    have h_ : axial_L7_S3 ka ca kb cb x0 x1 ds = some t_ := h
    clear h
    unfold axial_L7_S3 at h_
    obtain ⟨s19, e0, h0⟩ := pullD_elim h_
    clear h_
    obtain rfl := tup_inj e0
    by_cases b1_ : s19 < (ka : Int)
    · have h2_ := (if_pos b1_).symm.trans h0
      obtain ⟨f3_, h4_⟩ := guardP_elim h2_
      obtain ⟨v0, f5_, h6_⟩ := pullD_elim h4_
      replace f5_ := readD_elim f5_
      obtain ⟨f7_, h8_⟩ := guardP_elim h6_
      obtain ⟨v1, f9_, h10_⟩ := pullD_elim h8_
      replace f9_ := readD_elim f9_
      obtain ⟨f11_, h12_⟩ := guardP_elim h10_
      obtain ⟨v2, f13_, h14_⟩ := pullD_elim h12_
      replace f13_ := readD_elim f13_
      obtain rfl := Option.some.inj h14_
      exact ⟨step_pc 3000 (bT 1 []) [iD v0, iD v1, iD v2] [c_d b1_, c_f f3_, c_f f5_, c_f f7_, c_f f9_, c_f f11_, c_f f13_, ⟨fact (0 < 0 + 1 ∧ (0 + 1) * 8 ≤ 140737488355328 ∧ 0 + 1 ≤ 4611686018427387904), true, fact_mk (by decide)⟩] [] _ rfl (by kernel_rfl) (by kernel_rfl) (by kernel_rfl) (by kernel_rfl) (by kernel_rfl) (by kernel_rfl), trivial⟩
    have h2_ := (if_neg b1_).symm.trans h0
    obtain rfl := Option.some.inj h2_
    exact ⟨step_pc 3000 (bF 1 []) [] [c_n b1_] [] _ rfl (by kernel_rfl) (by kernel_rfl) (by kernel_rfl) (by kernel_rfl) (by kernel_rfl) (by kernel_rfl), by kernel_rfl, by kernel_rfl⟩
  | .next (_ + 4) _, _, h => by cases h
  | .out _ _, _, h => by cases h
theorem axial_L7_go (ka : Nat) (ca : List D) (kb : Nat) (cb : List D) (x0 : Nat) (x1 : List D) {q : Nat} {ds : List D} {j : Nat} {es : List D} (h : runR (axial_L7_S ka ca kb cb x0 x1) (.next q ds) = some (.out j es)) : Runs (ctx [44, 67] axial_sp) Tabs axial_L7_A (stateOf (axial_L7_gs ka ca kb cb x0 x1 (.next q ds))) (stateOf (axial_L7_gs ka ca kb cb x0 x1 (.out j es))) (axial_L7_ax (.out j es)) ∧ (nxtOf (axial_L7_gs ka ca kb cb x0 x1 (.out j es)), lowGS (axial_L7_gs ka ca kb cb x0 x1 (.out j es))) = (axial_L7_A.nx, axial_L7_A.low) :=
  runs_of' (good true _ _) axial_L7_ok (ax := axial_L7_ax) (fun _ _ => rfl) (fun _ _ => axOf_end _) (axial_L7_S_ok ka ca kb cb x0 x1) h
theorem axial_L7_in0 (ka : Nat) (ca : List D) (kb : Nat) (cb : List D) (x0 : Nat) (x1 : List D) {es : List D} (h : runR (axial_L7_S ka ca kb cb x0 x1) (.next 3 [iD ((0 : Int)), .one (.tuple #[]), .one (.tuple #[])]) = some (.out 0 es)) : LoopC (loopAt Try.prog 44 1) (axial_L7_E ka ca kb cb x0 x1) 8 noFrame axial_x7_0 es :=
  have r := axial_L7_go ka ca kb cb x0 x1 h
  loopin_as rfl (loop_in (l := axial_L7_A) (E := (axial_L7_E ka ca kb cb x0 x1)) (S := stateOf (axial_L7_gs ka ca kb cb x0 x1 (.next 3 [iD ((0 : Int)), .one (.tuple #[]), .one (.tuple #[])]))) (ns := nsOf (axial_L7_gs ka ca kb cb x0 x1 (.next 3 [iD ((0 : Int)), .one (.tuple #[]), .one (.tuple #[])]))) axial_L7_ok r.1 r.2 (by kernel_rfl) (by kernel_rfl) (by kernel_rfl) (by kernel_rfl))
theorem axial_L7_in1 (ka : Nat) (ca : List D) (kb : Nat) (cb : List D) (x0 : Nat) (x1 : List D) {es : List D} (h : runR (axial_L7_S ka ca kb cb x0 x1) (.next 3 [iD ((0 : Int)), .one (.tuple #[]), .one (.tuple #[])]) = some (.out 1 es)) : LoopC (loopAt Try.prog 44 1) (axial_L7_E ka ca kb cb x0 x1) 8 noFrame axial_x7_1 es :=
  have r := axial_L7_go ka ca kb cb x0 x1 h
  loopin_as rfl (loop_in (l := axial_L7_A) (E := (axial_L7_E ka ca kb cb x0 x1)) (S := stateOf (axial_L7_gs ka ca kb cb x0 x1 (.next 3 [iD ((0 : Int)), .one (.tuple #[]), .one (.tuple #[])]))) (ns := nsOf (axial_L7_gs ka ca kb cb x0 x1 (.next 3 [iD ((0 : Int)), .one (.tuple #[]), .one (.tuple #[])]))) axial_L7_ok r.1 r.2 (by kernel_rfl) (by kernel_rfl) (by kernel_rfl) (by kernel_rfl))
theorem axial_L7_in2 (ka : Nat) (ca : List D) (kb : Nat) (cb : List D) (x0 : Nat) (x1 : List D) {es : List D} (h : runR (axial_L7_S ka ca kb cb x0 x1) (.next 3 [iD ((0 : Int)), .one (.tuple #[]), .one (.tuple #[])]) = some (.out 2 es)) : LoopC (loopAt Try.prog 44 1) (axial_L7_E ka ca kb cb x0 x1) 8 noFrame axial_x7_2 es :=
  have r := axial_L7_go ka ca kb cb x0 x1 h
  loopin_as rfl (loop_in (l := axial_L7_A) (E := (axial_L7_E ka ca kb cb x0 x1)) (S := stateOf (axial_L7_gs ka ca kb cb x0 x1 (.next 3 [iD ((0 : Int)), .one (.tuple #[]), .one (.tuple #[])]))) (ns := nsOf (axial_L7_gs ka ca kb cb x0 x1 (.next 3 [iD ((0 : Int)), .one (.tuple #[]), .one (.tuple #[])]))) axial_L7_ok r.1 r.2 (by kernel_rfl) (by kernel_rfl) (by kernel_rfl) (by kernel_rfl))
theorem axial_L7_in3 (ka : Nat) (ca : List D) (kb : Nat) (cb : List D) (x0 : Nat) (x1 : List D) {es : List D} (h : runR (axial_L7_S ka ca kb cb x0 x1) (.next 3 [iD ((0 : Int)), .one (.tuple #[]), .one (.tuple #[])]) = some (.out 3 es)) : LoopC (loopAt Try.prog 44 1) (axial_L7_E ka ca kb cb x0 x1) 8 noFrame axial_x7_3 es :=
  have r := axial_L7_go ka ca kb cb x0 x1 h
  loopin_as rfl (loop_in (l := axial_L7_A) (E := (axial_L7_E ka ca kb cb x0 x1)) (S := stateOf (axial_L7_gs ka ca kb cb x0 x1 (.next 3 [iD ((0 : Int)), .one (.tuple #[]), .one (.tuple #[])]))) (ns := nsOf (axial_L7_gs ka ca kb cb x0 x1 (.next 3 [iD ((0 : Int)), .one (.tuple #[]), .one (.tuple #[])]))) axial_L7_ok r.1 r.2 (by kernel_rfl) (by kernel_rfl) (by kernel_rfl) (by kernel_rfl))
def axial_M (ka : Nat) (ca : List D) (kb : Nat) (cb : List D) : Option D := pullD (α := Nat × (List D)) (m_41 [.agg [.list ka ca, .list kb cb]]) (fun d => ((D.ln d), (D.lc d))) (fun (k0, c1) => .list k0 c1) fun (k0, c1) => (bindL (runR (axial_L7_S ka ca kb cb k0 c1) (.next 3 [iD ((0 : Int)), .one (.tuple #[]), .one (.tuple #[])])) fun j ds => (if j = 0 then pullD (α := Nat × (List D) × Nat × (List D)) (some (.tup ds)) (fun d => ((D.ln (D.at d 0)), (D.lc (D.at d 0)), (D.ln (D.at d 1)), (D.lc (D.at d 1)))) (fun (k2, c3, k4, c5) => .tup [.list k2 c3, .list k4 c5]) fun (k2, c3, k4, c5) => (bindL (runR (axial_L7_1_S ka ca kb cb k0 c1 k2 c3 k4 c5) (.next 0 [iD ((0 : Int)), .list (k2) (c3), .list (k4) (c5)])) fun j ds => (if j = 0 then pullD (α := Nat × (List D) × Nat × (List D)) (some (.tup ds)) (fun d => ((D.ln (D.at d 0)), (D.lc (D.at d 0)), (D.ln (D.at d 1)), (D.lc (D.at d 1)))) (fun (k6, c7, k8, c9) => .tup [.list k6 c7, .list k8 c9]) fun (k6, c7, k8, c9) => (guardP ((0 + k6) * 1 ≤ c7.length ∧ 0 < 1) (guardP ((0 + k8) * 1 ≤ c9.length ∧ 0 < 1) (some (.agg [.list k6 c7, .list k8 c9])))) else if j = 1 then pullD (α := Nat × (List D)) (some (.tup ds)) (fun d => ((D.ln (D.at d 1)), (D.lc (D.at d 1)))) (fun (k10, c11) => .tup [.one (.tuple #[]), .list k10 c11]) fun (k10, c11) => (guardP ((0 + k10) * 1 ≤ c11.length ∧ 0 < 1) (some (.agg [.list 0 [], .list k10 c11]))) else if j = 2 then pullD (α := Nat × (List D)) (some (.tup ds)) (fun d => ((D.ln (D.at d 0)), (D.lc (D.at d 0)))) (fun (k12, c13) => .tup [.list k12 c13, .one (.tuple #[])]) fun (k12, c13) => (guardP ((0 + k12) * 1 ≤ c13.length ∧ 0 < 1) (some (.agg [.list k12 c13, .list 0 []]))) else if j = 3 then pullD (some (.tup ds)) (fun _ => ()) (fun _ => .tup [.one (.tuple #[]), .one (.tuple #[])]) fun _ => (some (.agg [.list 0 [], .list 0 []])) else none)) else if j = 1 then pullD (α := Nat × (List D)) (some (.tup ds)) (fun d => ((D.ln (D.at d 1)), (D.lc (D.at d 1)))) (fun (k14, c15) => .tup [.one (.tuple #[]), .list k14 c15]) fun (k14, c15) => (bindL (runR (axial_L7_2_S ka ca kb cb k0 c1 k14 c15) (.next 1 [iD ((0 : Int)), .one (.tuple #[]), .list (k14) (c15)])) fun j ds => (if j = 0 then pullD (α := Nat × (List D) × Nat × (List D)) (some (.tup ds)) (fun d => ((D.ln (D.at d 0)), (D.lc (D.at d 0)), (D.ln (D.at d 1)), (D.lc (D.at d 1)))) (fun (k16, c17, k18, c19) => .tup [.list k16 c17, .list k18 c19]) fun (k16, c17, k18, c19) => (guardP ((0 + k16) * 1 ≤ c17.length ∧ 0 < 1) (guardP ((0 + k18) * 1 ≤ c19.length ∧ 0 < 1) (some (.agg [.list k16 c17, .list k18 c19])))) else if j = 1 then pullD (α := Nat × (List D)) (some (.tup ds)) (fun d => ((D.ln (D.at d 1)), (D.lc (D.at d 1)))) (fun (k20, c21) => .tup [.one (.tuple #[]), .list k20 c21]) fun (k20, c21) => (guardP ((0 + k20) * 1 ≤ c21.length ∧ 0 < 1) (some (.agg [.list 0 [], .list k20 c21]))) else if j = 2 then pullD (α := Nat × (List D)) (some (.tup ds)) (fun d => ((D.ln (D.at d 0)), (D.lc (D.at d 0)))) (fun (k22, c23) => .tup [.list k22 c23, .one (.tuple #[])]) fun (k22, c23) => (guardP ((0 + k22) * 1 ≤ c23.length ∧ 0 < 1) (some (.agg [.list k22 c23, .list 0 []]))) else if j = 3 then pullD (some (.tup ds)) (fun _ => ()) (fun _ => .tup [.one (.tuple #[]), .one (.tuple #[])]) fun _ => (some (.agg [.list 0 [], .list 0 []])) else none)) else if j = 2 then pullD (α := Nat × (List D)) (some (.tup ds)) (fun d => ((D.ln (D.at d 0)), (D.lc (D.at d 0)))) (fun (k24, c25) => .tup [.list k24 c25, .one (.tuple #[])]) fun (k24, c25) => (bindL (runR (axial_L7_3_S ka ca kb cb k0 c1 k24 c25) (.next 2 [iD ((0 : Int)), .list (k24) (c25), .one (.tuple #[])])) fun j ds => (if j = 0 then pullD (α := Nat × (List D) × Nat × (List D)) (some (.tup ds)) (fun d => ((D.ln (D.at d 0)), (D.lc (D.at d 0)), (D.ln (D.at d 1)), (D.lc (D.at d 1)))) (fun (k26, c27, k28, c29) => .tup [.list k26 c27, .list k28 c29]) fun (k26, c27, k28, c29) => (guardP ((0 + k26) * 1 ≤ c27.length ∧ 0 < 1) (guardP ((0 + k28) * 1 ≤ c29.length ∧ 0 < 1) (some (.agg [.list k26 c27, .list k28 c29])))) else if j = 1 then pullD (α := Nat × (List D)) (some (.tup ds)) (fun d => ((D.ln (D.at d 1)), (D.lc (D.at d 1)))) (fun (k30, c31) => .tup [.one (.tuple #[]), .list k30 c31]) fun (k30, c31) => (guardP ((0 + k30) * 1 ≤ c31.length ∧ 0 < 1) (some (.agg [.list 0 [], .list k30 c31]))) else if j = 2 then pullD (α := Nat × (List D)) (some (.tup ds)) (fun d => ((D.ln (D.at d 0)), (D.lc (D.at d 0)))) (fun (k32, c33) => .tup [.list k32 c33, .one (.tuple #[])]) fun (k32, c33) => (guardP ((0 + k32) * 1 ≤ c33.length ∧ 0 < 1) (some (.agg [.list k32 c33, .list 0 []]))) else if j = 3 then pullD (some (.tup ds)) (fun _ => ()) (fun _ => .tup [.one (.tuple #[]), .one (.tuple #[])]) fun _ => (some (.agg [.list 0 [], .list 0 []])) else none)) else if j = 3 then pullD (some (.tup ds)) (fun _ => ()) (fun _ => .tup [.one (.tuple #[]), .one (.tuple #[])]) fun _ => (bindL (runR (axial_L7_4_S ka ca kb cb k0 c1) (.next 3 [iD ((0 : Int)), .one (.tuple #[]), .one (.tuple #[])])) fun j ds => (if j = 0 then pullD (α := Nat × (List D) × Nat × (List D)) (some (.tup ds)) (fun d => ((D.ln (D.at d 0)), (D.lc (D.at d 0)), (D.ln (D.at d 1)), (D.lc (D.at d 1)))) (fun (k34, c35, k36, c37) => .tup [.list k34 c35, .list k36 c37]) fun (k34, c35, k36, c37) => (guardP ((0 + k34) * 1 ≤ c35.length ∧ 0 < 1) (guardP ((0 + k36) * 1 ≤ c37.length ∧ 0 < 1) (some (.agg [.list k34 c35, .list k36 c37])))) else if j = 1 then pullD (α := Nat × (List D)) (some (.tup ds)) (fun d => ((D.ln (D.at d 1)), (D.lc (D.at d 1)))) (fun (k38, c39) => .tup [.one (.tuple #[]), .list k38 c39]) fun (k38, c39) => (guardP ((0 + k38) * 1 ≤ c39.length ∧ 0 < 1) (some (.agg [.list 0 [], .list k38 c39]))) else if j = 2 then pullD (α := Nat × (List D)) (some (.tup ds)) (fun d => ((D.ln (D.at d 0)), (D.lc (D.at d 0)))) (fun (k40, c41) => .tup [.list k40 c41, .one (.tuple #[])]) fun (k40, c41) => (guardP ((0 + k40) * 1 ≤ c41.length ∧ 0 < 1) (some (.agg [.list k40 c41, .list 0 []]))) else if j = 3 then pullD (some (.tup ds)) (fun _ => ()) (fun _ => .tup [.one (.tuple #[]), .one (.tuple #[])]) fun _ => (some (.agg [.list 0 [], .list 0 []])) else none)) else none))
theorem axial_M_ok (ka : Nat) (ca : List D) (kb : Nat) (cb : List D) {r : D} (h : axial_M ka ca kb cb = some r) : Con 44 [.agg [.list ka ca, .list kb cb]] r := by
  unfold axial_M at h
  obtain ⟨⟨k0, c1⟩, f1_, h2_⟩ := pullD_elim h
  replace f1_ := m_41_ok f1_
  obtain ⟨j, ds, e3_, h4_⟩ := bindL_elim h2_
  by_cases j5_ : j = 0
  · have h8_ := (if_pos j5_).symm.trans h4_
    clear h4_
    subst j5_
    obtain ⟨⟨k2, c3, k4, c5⟩, e6_, h9_⟩ := pullD_elim h8_
    clear h8_
    obtain rfl := tup_inj e6_
    have k7_ := axial_L7_in0 ka ca kb cb k0 c1 e3_
    obtain ⟨j, ds, e10_, h11_⟩ := bindL_elim h9_
    by_cases j12_ : j = 0
    · have h15_ := (if_pos j12_).symm.trans h11_
      clear h11_
      subst j12_
      obtain ⟨⟨k6, c7, k8, c9⟩, e13_, h16_⟩ := pullD_elim h15_
      clear h15_
      obtain rfl := tup_inj e13_
      have k14_ := axial_L7_1_in0 ka ca kb cb k0 c1 k2 c3 k4 c5 e10_
      obtain ⟨f17_, h18_⟩ := guardP_elim h16_
      obtain ⟨f19_, h20_⟩ := guardP_elim h18_
      obtain rfl := Option.some.inj h20_
      exact con_pc (op := true) (I := [44, 67]) (sp := axial_sp) 3000 (bT 2 (bF 1 [])) [.list k0 c1, .tup [iD (Int.ofNat 0), .list k2 c3, .list k4 c5], .tup [iD (Int.ofNat 0), .list k6 c7, .list k8 c9]] [c_T, c_T, c_F, c_f f17_, c_f f19_] [k_c f1_, k_l k7_ (bT 1 (bF 1 [])) [.tup [iD (Int.ofNat 0), .list k2 c3, .list k4 c5], .tup [iD (Int.ofNat 0), .list k6 c7, .list k8 c9]] [.tup [iD (Int.ofNat 0), .list k6 c7, .list k8 c9]], k_l k14_ (bF 1 []) [.tup [iD (Int.ofNat 0), .list k6 c7, .list k8 c9]] []] (by kernel_rfl)
    have h21_ := (if_neg j12_).symm.trans h11_
    clear h11_
    by_cases j22_ : j = 1
    · have h25_ := (if_pos j22_).symm.trans h21_
      clear h21_
      subst j22_
      obtain ⟨⟨k10, c11⟩, e23_, h26_⟩ := pullD_elim h25_
      clear h25_
      obtain rfl := tup_inj e23_
      have k24_ := axial_L7_1_in1 ka ca kb cb k0 c1 k2 c3 k4 c5 e10_
      obtain ⟨f27_, h28_⟩ := guardP_elim h26_
      obtain rfl := Option.some.inj h28_
      exact con_pc (op := true) (I := [44, 67]) (sp := axial_sp) 3000 (bT 2 (bF 1 [])) [.list k0 c1, .tup [iD (Int.ofNat 0), .list k2 c3, .list k4 c5], .tup [iD (Int.ofNat 1), .one (.tuple #[]), .list k10 c11]] [c_T, c_T, c_F, c_f f27_] [k_c f1_, k_l k7_ (bT 1 (bF 1 [])) [.tup [iD (Int.ofNat 0), .list k2 c3, .list k4 c5], .tup [iD (Int.ofNat 1), .one (.tuple #[]), .list k10 c11]] [.tup [iD (Int.ofNat 1), .one (.tuple #[]), .list k10 c11]], k_l k24_ (bF 1 []) [.tup [iD (Int.ofNat 1), .one (.tuple #[]), .list k10 c11]] []] (by kernel_rfl)
    have h29_ := (if_neg j22_).symm.trans h21_
    clear h21_
    by_cases j30_ : j = 2
    · have h33_ := (if_pos j30_).symm.trans h29_
      clear h29_
      subst j30_
      obtain ⟨⟨k12, c13⟩, e31_, h34_⟩ := pullD_elim h33_
      clear h33_
      obtain rfl := tup_inj e31_
      have k32_ := axial_L7_1_in2 ka ca kb cb k0 c1 k2 c3 k4 c5 e10_
      obtain ⟨f35_, h36_⟩ := guardP_elim h34_
      obtain rfl := Option.some.inj h36_
      exact con_pc (op := true) (I := [44, 67]) (sp := axial_sp) 3000 (bT 2 (bF 1 [])) [.list k0 c1, .tup [iD (Int.ofNat 0), .list k2 c3, .list k4 c5], .tup [iD (Int.ofNat 2), .list k12 c13, .one (.tuple #[])]] [c_T, c_T, c_F, c_f f35_] [k_c f1_, k_l k7_ (bT 1 (bF 1 [])) [.tup [iD (Int.ofNat 0), .list k2 c3, .list k4 c5], .tup [iD (Int.ofNat 2), .list k12 c13, .one (.tuple #[])]] [.tup [iD (Int.ofNat 2), .list k12 c13, .one (.tuple #[])]], k_l k32_ (bF 1 []) [.tup [iD (Int.ofNat 2), .list k12 c13, .one (.tuple #[])]] []] (by kernel_rfl)
    have h37_ := (if_neg j30_).symm.trans h29_
    clear h29_
    by_cases j38_ : j = 3
    · have h41_ := (if_pos j38_).symm.trans h37_
      clear h37_
      subst j38_
      obtain ⟨⟨⟩, e39_, h42_⟩ := pullD_elim h41_
      clear h41_
      obtain rfl := tup_inj e39_
      have k40_ := axial_L7_1_in3 ka ca kb cb k0 c1 k2 c3 k4 c5 e10_
      obtain rfl := Option.some.inj h42_
      exact con_pc (op := true) (I := [44, 67]) (sp := axial_sp) 3000 (bT 2 (bF 1 [])) [.list k0 c1, .tup [iD (Int.ofNat 0), .list k2 c3, .list k4 c5], .tup [iD (Int.ofNat 3), .one (.tuple #[]), .one (.tuple #[])]] [c_T, c_T, c_F] [k_c f1_, k_l k7_ (bT 1 (bF 1 [])) [.tup [iD (Int.ofNat 0), .list k2 c3, .list k4 c5], .tup [iD (Int.ofNat 3), .one (.tuple #[]), .one (.tuple #[])]] [.tup [iD (Int.ofNat 3), .one (.tuple #[]), .one (.tuple #[])]], k_l k40_ (bF 1 []) [.tup [iD (Int.ofNat 3), .one (.tuple #[]), .one (.tuple #[])]] []] (by kernel_rfl)
    have h43_ := (if_neg j38_).symm.trans h37_
    clear h37_
    cases h43_
  have h44_ := (if_neg j5_).symm.trans h4_
  clear h4_
  by_cases j45_ : j = 1
  · have h48_ := (if_pos j45_).symm.trans h44_
    clear h44_
    subst j45_
    obtain ⟨⟨k14, c15⟩, e46_, h49_⟩ := pullD_elim h48_
    clear h48_
    obtain rfl := tup_inj e46_
    have k47_ := axial_L7_in1 ka ca kb cb k0 c1 e3_
    obtain ⟨j, ds, e50_, h51_⟩ := bindL_elim h49_
    by_cases j52_ : j = 0
    · have h55_ := (if_pos j52_).symm.trans h51_
      clear h51_
      subst j52_
      obtain ⟨⟨k16, c17, k18, c19⟩, e53_, h56_⟩ := pullD_elim h55_
      clear h55_
      obtain rfl := tup_inj e53_
      have k54_ := axial_L7_2_in0 ka ca kb cb k0 c1 k14 c15 e50_
      obtain ⟨f57_, h58_⟩ := guardP_elim h56_
      obtain ⟨f59_, h60_⟩ := guardP_elim h58_
      obtain rfl := Option.some.inj h60_
      exact con_pc (op := true) (I := [44, 67]) (sp := axial_sp) 3000 (bT 2 (bF 1 [])) [.list k0 c1, .tup [iD (Int.ofNat 1), .one (.tuple #[]), .list k14 c15], .tup [iD (Int.ofNat 0), .list k16 c17, .list k18 c19]] [c_T, c_T, c_F, c_f f57_, c_f f59_] [k_c f1_, k_l k47_ (bT 1 (bF 1 [])) [.tup [iD (Int.ofNat 1), .one (.tuple #[]), .list k14 c15], .tup [iD (Int.ofNat 0), .list k16 c17, .list k18 c19]] [.tup [iD (Int.ofNat 0), .list k16 c17, .list k18 c19]], k_l k54_ (bF 1 []) [.tup [iD (Int.ofNat 0), .list k16 c17, .list k18 c19]] []] (by kernel_rfl)
    have h61_ := (if_neg j52_).symm.trans h51_
    clear h51_
    by_cases j62_ : j = 1
    · have h65_ := (if_pos j62_).symm.trans h61_
      clear h61_
      subst j62_
      obtain ⟨⟨k20, c21⟩, e63_, h66_⟩ := pullD_elim h65_
      clear h65_
      obtain rfl := tup_inj e63_
      have k64_ := axial_L7_2_in1 ka ca kb cb k0 c1 k14 c15 e50_
      obtain ⟨f67_, h68_⟩ := guardP_elim h66_
      obtain rfl := Option.some.inj h68_
      exact con_pc (op := true) (I := [44, 67]) (sp := axial_sp) 3000 (bT 2 (bF 1 [])) [.list k0 c1, .tup [iD (Int.ofNat 1), .one (.tuple #[]), .list k14 c15], .tup [iD (Int.ofNat 1), .one (.tuple #[]), .list k20 c21]] [c_T, c_T, c_F, c_f f67_] [k_c f1_, k_l k47_ (bT 1 (bF 1 [])) [.tup [iD (Int.ofNat 1), .one (.tuple #[]), .list k14 c15], .tup [iD (Int.ofNat 1), .one (.tuple #[]), .list k20 c21]] [.tup [iD (Int.ofNat 1), .one (.tuple #[]), .list k20 c21]], k_l k64_ (bF 1 []) [.tup [iD (Int.ofNat 1), .one (.tuple #[]), .list k20 c21]] []] (by kernel_rfl)
    have h69_ := (if_neg j62_).symm.trans h61_
    clear h61_
    by_cases j70_ : j = 2
    · have h73_ := (if_pos j70_).symm.trans h69_
      clear h69_
      subst j70_
      obtain ⟨⟨k22, c23⟩, e71_, h74_⟩ := pullD_elim h73_
      clear h73_
      obtain rfl := tup_inj e71_
      have k72_ := axial_L7_2_in2 ka ca kb cb k0 c1 k14 c15 e50_
      obtain ⟨f75_, h76_⟩ := guardP_elim h74_
      obtain rfl := Option.some.inj h76_
      exact con_pc (op := true) (I := [44, 67]) (sp := axial_sp) 3000 (bT 2 (bF 1 [])) [.list k0 c1, .tup [iD (Int.ofNat 1), .one (.tuple #[]), .list k14 c15], .tup [iD (Int.ofNat 2), .list k22 c23, .one (.tuple #[])]] [c_T, c_T, c_F, c_f f75_] [k_c f1_, k_l k47_ (bT 1 (bF 1 [])) [.tup [iD (Int.ofNat 1), .one (.tuple #[]), .list k14 c15], .tup [iD (Int.ofNat 2), .list k22 c23, .one (.tuple #[])]] [.tup [iD (Int.ofNat 2), .list k22 c23, .one (.tuple #[])]], k_l k72_ (bF 1 []) [.tup [iD (Int.ofNat 2), .list k22 c23, .one (.tuple #[])]] []] (by kernel_rfl)
    have h77_ := (if_neg j70_).symm.trans h69_
    clear h69_
    by_cases j78_ : j = 3
    · have h81_ := (if_pos j78_).symm.trans h77_
      clear h77_
      subst j78_
      obtain ⟨⟨⟩, e79_, h82_⟩ := pullD_elim h81_
      clear h81_
      obtain rfl := tup_inj e79_
      have k80_ := axial_L7_2_in3 ka ca kb cb k0 c1 k14 c15 e50_
      obtain rfl := Option.some.inj h82_
      exact con_pc (op := true) (I := [44, 67]) (sp := axial_sp) 3000 (bT 2 (bF 1 [])) [.list k0 c1, .tup [iD (Int.ofNat 1), .one (.tuple #[]), .list k14 c15], .tup [iD (Int.ofNat 3), .one (.tuple #[]), .one (.tuple #[])]] [c_T, c_T, c_F] [k_c f1_, k_l k47_ (bT 1 (bF 1 [])) [.tup [iD (Int.ofNat 1), .one (.tuple #[]), .list k14 c15], .tup [iD (Int.ofNat 3), .one (.tuple #[]), .one (.tuple #[])]] [.tup [iD (Int.ofNat 3), .one (.tuple #[]), .one (.tuple #[])]], k_l k80_ (bF 1 []) [.tup [iD (Int.ofNat 3), .one (.tuple #[]), .one (.tuple #[])]] []] (by kernel_rfl)
    have h83_ := (if_neg j78_).symm.trans h77_
    clear h77_
    cases h83_
  have h84_ := (if_neg j45_).symm.trans h44_
  clear h44_
  by_cases j85_ : j = 2
  · have h88_ := (if_pos j85_).symm.trans h84_
    clear h84_
    subst j85_
    obtain ⟨⟨k24, c25⟩, e86_, h89_⟩ := pullD_elim h88_
    clear h88_
    obtain rfl := tup_inj e86_
    have k87_ := axial_L7_in2 ka ca kb cb k0 c1 e3_
    obtain ⟨j, ds, e90_, h91_⟩ := bindL_elim h89_
    by_cases j92_ : j = 0
    · have h95_ := (if_pos j92_).symm.trans h91_
      clear h91_
      subst j92_
      obtain ⟨⟨k26, c27, k28, c29⟩, e93_, h96_⟩ := pullD_elim h95_
      clear h95_
      obtain rfl := tup_inj e93_
      have k94_ := axial_L7_3_in0 ka ca kb cb k0 c1 k24 c25 e90_
      obtain ⟨f97_, h98_⟩ := guardP_elim h96_
      obtain ⟨f99_, h100_⟩ := guardP_elim h98_
      obtain rfl := Option.some.inj h100_
      exact con_pc (op := true) (I := [44, 67]) (sp := axial_sp) 3000 (bT 2 (bF 1 [])) [.list k0 c1, .tup [iD (Int.ofNat 2), .list k24 c25, .one (.tuple #[])], .tup [iD (Int.ofNat 0), .list k26 c27, .list k28 c29]] [c_T, c_T, c_F, c_f f97_, c_f f99_] [k_c f1_, k_l k87_ (bT 1 (bF 1 [])) [.tup [iD (Int.ofNat 2), .list k24 c25, .one (.tuple #[])], .tup [iD (Int.ofNat 0), .list k26 c27, .list k28 c29]] [.tup [iD (Int.ofNat 0), .list k26 c27, .list k28 c29]], k_l k94_ (bF 1 []) [.tup [iD (Int.ofNat 0), .list k26 c27, .list k28 c29]] []] (by kernel_rfl)
    have h101_ := (if_neg j92_).symm.trans h91_
    clear h91_
    by_cases j102_ : j = 1
    · have h105_ := (if_pos j102_).symm.trans h101_
      clear h101_
      subst j102_
      obtain ⟨⟨k30, c31⟩, e103_, h106_⟩ := pullD_elim h105_
      clear h105_
      obtain rfl := tup_inj e103_
      have k104_ := axial_L7_3_in1 ka ca kb cb k0 c1 k24 c25 e90_
      obtain ⟨f107_, h108_⟩ := guardP_elim h106_
      obtain rfl := Option.some.inj h108_
      exact con_pc (op := true) (I := [44, 67]) (sp := axial_sp) 3000 (bT 2 (bF 1 [])) [.list k0 c1, .tup [iD (Int.ofNat 2), .list k24 c25, .one (.tuple #[])], .tup [iD (Int.ofNat 1), .one (.tuple #[]), .list k30 c31]] [c_T, c_T, c_F, c_f f107_] [k_c f1_, k_l k87_ (bT 1 (bF 1 [])) [.tup [iD (Int.ofNat 2), .list k24 c25, .one (.tuple #[])], .tup [iD (Int.ofNat 1), .one (.tuple #[]), .list k30 c31]] [.tup [iD (Int.ofNat 1), .one (.tuple #[]), .list k30 c31]], k_l k104_ (bF 1 []) [.tup [iD (Int.ofNat 1), .one (.tuple #[]), .list k30 c31]] []] (by kernel_rfl)
    have h109_ := (if_neg j102_).symm.trans h101_
    clear h101_
    by_cases j110_ : j = 2
    · have h113_ := (if_pos j110_).symm.trans h109_
      clear h109_
      subst j110_
      obtain ⟨⟨k32, c33⟩, e111_, h114_⟩ := pullD_elim h113_
      clear h113_
      obtain rfl := tup_inj e111_
      have k112_ := axial_L7_3_in2 ka ca kb cb k0 c1 k24 c25 e90_
      obtain ⟨f115_, h116_⟩ := guardP_elim h114_
      obtain rfl := Option.some.inj h116_
      exact con_pc (op := true) (I := [44, 67]) (sp := axial_sp) 3000 (bT 2 (bF 1 [])) [.list k0 c1, .tup [iD (Int.ofNat 2), .list k24 c25, .one (.tuple #[])], .tup [iD (Int.ofNat 2), .list k32 c33, .one (.tuple #[])]] [c_T, c_T, c_F, c_f f115_] [k_c f1_, k_l k87_ (bT 1 (bF 1 [])) [.tup [iD (Int.ofNat 2), .list k24 c25, .one (.tuple #[])], .tup [iD (Int.ofNat 2), .list k32 c33, .one (.tuple #[])]] [.tup [iD (Int.ofNat 2), .list k32 c33, .one (.tuple #[])]], k_l k112_ (bF 1 []) [.tup [iD (Int.ofNat 2), .list k32 c33, .one (.tuple #[])]] []] (by kernel_rfl)
    have h117_ := (if_neg j110_).symm.trans h109_
    clear h109_
    by_cases j118_ : j = 3
    · have h121_ := (if_pos j118_).symm.trans h117_
      clear h117_
      subst j118_
      obtain ⟨⟨⟩, e119_, h122_⟩ := pullD_elim h121_
      clear h121_
      obtain rfl := tup_inj e119_
      have k120_ := axial_L7_3_in3 ka ca kb cb k0 c1 k24 c25 e90_
      obtain rfl := Option.some.inj h122_
      exact con_pc (op := true) (I := [44, 67]) (sp := axial_sp) 3000 (bT 2 (bF 1 [])) [.list k0 c1, .tup [iD (Int.ofNat 2), .list k24 c25, .one (.tuple #[])], .tup [iD (Int.ofNat 3), .one (.tuple #[]), .one (.tuple #[])]] [c_T, c_T, c_F] [k_c f1_, k_l k87_ (bT 1 (bF 1 [])) [.tup [iD (Int.ofNat 2), .list k24 c25, .one (.tuple #[])], .tup [iD (Int.ofNat 3), .one (.tuple #[]), .one (.tuple #[])]] [.tup [iD (Int.ofNat 3), .one (.tuple #[]), .one (.tuple #[])]], k_l k120_ (bF 1 []) [.tup [iD (Int.ofNat 3), .one (.tuple #[]), .one (.tuple #[])]] []] (by kernel_rfl)
    have h123_ := (if_neg j118_).symm.trans h117_
    clear h117_
    cases h123_
  have h124_ := (if_neg j85_).symm.trans h84_
  clear h84_
  by_cases j125_ : j = 3
  · have h128_ := (if_pos j125_).symm.trans h124_
    clear h124_
    subst j125_
    obtain ⟨⟨⟩, e126_, h129_⟩ := pullD_elim h128_
    clear h128_
    obtain rfl := tup_inj e126_
    have k127_ := axial_L7_in3 ka ca kb cb k0 c1 e3_
    obtain ⟨j, ds, e130_, h131_⟩ := bindL_elim h129_
    by_cases j132_ : j = 0
    · have h135_ := (if_pos j132_).symm.trans h131_
      clear h131_
      subst j132_
      obtain ⟨⟨k34, c35, k36, c37⟩, e133_, h136_⟩ := pullD_elim h135_
      clear h135_
      obtain rfl := tup_inj e133_
      have k134_ := axial_L7_4_in0 ka ca kb cb k0 c1 e130_
      obtain ⟨f137_, h138_⟩ := guardP_elim h136_
      obtain ⟨f139_, h140_⟩ := guardP_elim h138_
      obtain rfl := Option.some.inj h140_
      exact con_pc (op := true) (I := [44, 67]) (sp := axial_sp) 3000 (bT 2 (bF 1 [])) [.list k0 c1, .tup [iD (Int.ofNat 3), .one (.tuple #[]), .one (.tuple #[])], .tup [iD (Int.ofNat 0), .list k34 c35, .list k36 c37]] [c_T, c_T, c_F, c_f f137_, c_f f139_] [k_c f1_, k_l k127_ (bT 1 (bF 1 [])) [.tup [iD (Int.ofNat 3), .one (.tuple #[]), .one (.tuple #[])], .tup [iD (Int.ofNat 0), .list k34 c35, .list k36 c37]] [.tup [iD (Int.ofNat 0), .list k34 c35, .list k36 c37]], k_l k134_ (bF 1 []) [.tup [iD (Int.ofNat 0), .list k34 c35, .list k36 c37]] []] (by kernel_rfl)
    have h141_ := (if_neg j132_).symm.trans h131_
    clear h131_
    by_cases j142_ : j = 1
    · have h145_ := (if_pos j142_).symm.trans h141_
      clear h141_
      subst j142_
      obtain ⟨⟨k38, c39⟩, e143_, h146_⟩ := pullD_elim h145_
      clear h145_
      obtain rfl := tup_inj e143_
      have k144_ := axial_L7_4_in1 ka ca kb cb k0 c1 e130_
      obtain ⟨f147_, h148_⟩ := guardP_elim h146_
      obtain rfl := Option.some.inj h148_
      exact con_pc (op := true) (I := [44, 67]) (sp := axial_sp) 3000 (bT 2 (bF 1 [])) [.list k0 c1, .tup [iD (Int.ofNat 3), .one (.tuple #[]), .one (.tuple #[])], .tup [iD (Int.ofNat 1), .one (.tuple #[]), .list k38 c39]] [c_T, c_T, c_F, c_f f147_] [k_c f1_, k_l k127_ (bT 1 (bF 1 [])) [.tup [iD (Int.ofNat 3), .one (.tuple #[]), .one (.tuple #[])], .tup [iD (Int.ofNat 1), .one (.tuple #[]), .list k38 c39]] [.tup [iD (Int.ofNat 1), .one (.tuple #[]), .list k38 c39]], k_l k144_ (bF 1 []) [.tup [iD (Int.ofNat 1), .one (.tuple #[]), .list k38 c39]] []] (by kernel_rfl)
    have h149_ := (if_neg j142_).symm.trans h141_
    clear h141_
    by_cases j150_ : j = 2
    · have h153_ := (if_pos j150_).symm.trans h149_
      clear h149_
      subst j150_
      obtain ⟨⟨k40, c41⟩, e151_, h154_⟩ := pullD_elim h153_
      clear h153_
      obtain rfl := tup_inj e151_
      have k152_ := axial_L7_4_in2 ka ca kb cb k0 c1 e130_
      obtain ⟨f155_, h156_⟩ := guardP_elim h154_
      obtain rfl := Option.some.inj h156_
      exact con_pc (op := true) (I := [44, 67]) (sp := axial_sp) 3000 (bT 2 (bF 1 [])) [.list k0 c1, .tup [iD (Int.ofNat 3), .one (.tuple #[]), .one (.tuple #[])], .tup [iD (Int.ofNat 2), .list k40 c41, .one (.tuple #[])]] [c_T, c_T, c_F, c_f f155_] [k_c f1_, k_l k127_ (bT 1 (bF 1 [])) [.tup [iD (Int.ofNat 3), .one (.tuple #[]), .one (.tuple #[])], .tup [iD (Int.ofNat 2), .list k40 c41, .one (.tuple #[])]] [.tup [iD (Int.ofNat 2), .list k40 c41, .one (.tuple #[])]], k_l k152_ (bF 1 []) [.tup [iD (Int.ofNat 2), .list k40 c41, .one (.tuple #[])]] []] (by kernel_rfl)
    have h157_ := (if_neg j150_).symm.trans h149_
    clear h149_
    by_cases j158_ : j = 3
    · have h161_ := (if_pos j158_).symm.trans h157_
      clear h157_
      subst j158_
      obtain ⟨⟨⟩, e159_, h162_⟩ := pullD_elim h161_
      clear h161_
      obtain rfl := tup_inj e159_
      have k160_ := axial_L7_4_in3 ka ca kb cb k0 c1 e130_
      obtain rfl := Option.some.inj h162_
      exact con_pc (op := true) (I := [44, 67]) (sp := axial_sp) 3000 (bT 2 (bF 1 [])) [.list k0 c1, .tup [iD (Int.ofNat 3), .one (.tuple #[]), .one (.tuple #[])], .tup [iD (Int.ofNat 3), .one (.tuple #[]), .one (.tuple #[])]] [c_T, c_T, c_F] [k_c f1_, k_l k127_ (bT 1 (bF 1 [])) [.tup [iD (Int.ofNat 3), .one (.tuple #[]), .one (.tuple #[])], .tup [iD (Int.ofNat 3), .one (.tuple #[]), .one (.tuple #[])]] [.tup [iD (Int.ofNat 3), .one (.tuple #[]), .one (.tuple #[])]], k_l k160_ (bF 1 []) [.tup [iD (Int.ofNat 3), .one (.tuple #[]), .one (.tuple #[])]] []] (by kernel_rfl)
    have h163_ := (if_neg j158_).symm.trans h157_
    clear h157_
    cases h163_
  have h164_ := (if_neg j125_).symm.trans h124_
  clear h124_
  cases h164_
def m_44 (ds : List D) : Option D := pullD (α := Nat × (List D) × Nat × (List D)) (some (.tup ds)) (fun d => ((D.ln (D.at (D.at d 0) 0)), (D.lc (D.at (D.at d 0) 0)), (D.ln (D.at (D.at d 0) 1)), (D.lc (D.at (D.at d 0) 1)))) (fun (ka, ca, kb, cb) => .tup [.agg [.list ka ca, .list kb cb]]) fun (ka, ca, kb, cb) => axial_M ka ca kb cb
theorem m_44_ok {ds : List D} {r : D} (h : m_44 ds = some r) : Con 44 ds r := by
  unfold m_44 at h
  obtain ⟨⟨ka, ca, kb, cb⟩, e0, h0⟩ := pullD_elim h
  obtain rfl := tup_inj e0
  exact axial_M_ok ka ca kb cb h0
theorem m_44_eq (ka : Nat) (ca : List D) (kb : Nat) (cb : List D) : m_44 [.agg [.list ka ca, .list kb cb]] = axial_M ka ca kb cb := pullD_some (ka, ca, kb, cb) rfl rfl
def thrusts_sp : List LSpec := []
def thrusts_M (ka : Nat) (ca : List D) (kb : Nat) (cb : List D) : Option D := pullD (α := Nat × (List D) × Nat × (List D)) (m_44 [.agg [.list ka ca, .list kb cb]]) (fun d => ((D.ln (D.at d 0)), (D.lc (D.at d 0)), (D.ln (D.at d 1)), (D.lc (D.at d 1)))) (fun (k0, c1, k2, c3) => .agg [.list k0 c1, .list k2 c3]) fun (k0, c1, k2, c3) => (pullD (α := Nat × (List D)) (m_66 [.list k0 c1]) (fun d => ((D.ln d), (D.lc d))) (fun (k4, c5) => .list k4 c5) fun (k4, c5) => (pullD (α := Nat × (List D)) (m_66 [.list k2 c3]) (fun d => ((D.ln d), (D.lc d))) (fun (k6, c7) => .list k6 c7) fun (k6, c7) => (some (.agg [.list k4 c5, .list k6 c7]))))
theorem thrusts_M_ok (ka : Nat) (ca : List D) (kb : Nat) (cb : List D) {r : D} (h : thrusts_M ka ca kb cb = some r) : Con 45 [.agg [.list ka ca, .list kb cb]] r := by
  unfold thrusts_M at h
  obtain ⟨⟨k0, c1, k2, c3⟩, f1_, h2_⟩ := pullD_elim h
  replace f1_ := m_44_ok f1_
  obtain ⟨⟨k4, c5⟩, f3_, h4_⟩ := pullD_elim h2_
  replace f3_ := m_66_ok f3_
  obtain ⟨⟨k6, c7⟩, f5_, h6_⟩ := pullD_elim h4_
  replace f5_ := m_66_ok f5_
  obtain rfl := Option.some.inj h6_
  exact con_pc (op := true) (I := [45]) (sp := thrusts_sp) 3000 (bT 2 (bF 1 [])) [.agg [.list k0 c1, .list k2 c3], .list k4 c5, .list k6 c7] [c_T, c_T, c_F] [k_c f1_, k_c f3_, k_c f5_] (by kernel_rfl)
def m_45 (ds : List D) : Option D := pullD (α := Nat × (List D) × Nat × (List D)) (some (.tup ds)) (fun d => ((D.ln (D.at (D.at d 0) 0)), (D.lc (D.at (D.at d 0) 0)), (D.ln (D.at (D.at d 0) 1)), (D.lc (D.at (D.at d 0) 1)))) (fun (ka, ca, kb, cb) => .tup [.agg [.list ka ca, .list kb cb]]) fun (ka, ca, kb, cb) => thrusts_M ka ca kb cb
theorem m_45_ok {ds : List D} {r : D} (h : m_45 ds = some r) : Con 45 ds r := by
  unfold m_45 at h
  obtain ⟨⟨ka, ca, kb, cb⟩, e0, h0⟩ := pullD_elim h
  obtain rfl := tup_inj e0
  exact thrusts_M_ok ka ca kb cb h0
theorem m_45_eq (ka : Nat) (ca : List D) (kb : Nat) (cb : List D) : m_45 [.agg [.list ka ca, .list kb cb]] = thrusts_M ka ca kb cb := pullD_some (ka, ca, kb, cb) rfl rfl
def axialOf_sp : List LSpec := []
def axialOf_M (ka : Nat) (ca : List D) (kb : Nat) (cb : List D) : Option D := pullD (α := Nat × (List D) × Nat × (List D) × Int) (m_40 [.agg [.list ka ca, .list kb cb]]) (fun d => ((D.ln (D.at (D.at d 0) 0)), (D.lc (D.at (D.at d 0) 0)), (D.ln (D.at (D.at d 0) 1)), (D.lc (D.at (D.at d 0) 1)), (D.vi (D.at d 1)))) (fun (k0, c1, k2, c3, r4) => .tup [.agg [.list k0 c1, .list k2 c3], iD r4]) fun (k0, c1, k2, c3, r4) => ((if r4 ≠ (0 : Int) then some (.tup [.agg [.list 0 [], .list 0 []], iD r4]) else pullD (α := Nat × (List D) × Nat × (List D)) (m_44 [.agg [.list k0 c1, .list k2 c3]]) (fun d => ((D.ln (D.at d 0)), (D.lc (D.at d 0)), (D.ln (D.at d 1)), (D.lc (D.at d 1)))) (fun (k5, c6, k7, c8) => .agg [.list k5 c6, .list k7 c8]) fun (k5, c6, k7, c8) => (some (.tup [.agg [.list k5 c6, .list k7 c8], iD (0 : Int)]))))
theorem axialOf_M_ok (ka : Nat) (ca : List D) (kb : Nat) (cb : List D) {r : D} (h : axialOf_M ka ca kb cb = some r) : Con 12 [.agg [.list ka ca, .list kb cb]] r := by
  unfold axialOf_M at h
  obtain ⟨⟨k0, c1, k2, c3, r4⟩, f1_, h2_⟩ := pullD_elim h
  replace f1_ := m_40_ok f1_
  by_cases b3_ : r4 ≠ (0 : Int)
  · have h4_ := (if_pos b3_).symm.trans h2_
    obtain rfl := Option.some.inj h4_
    exact con_pc (op := true) (I := [12, 43]) (sp := axialOf_sp) 3000 (bT 1 []) [.tup [.agg [.list k0 c1, .list k2 c3], iD r4]] [c_b b3_] [k_c f1_] (by kernel_rfl)
  have h4_ := (if_neg b3_).symm.trans h2_
  have b5_ : r4 = (0 : Int) := by first | exact b3_ | simpa using b3_
  obtain ⟨⟨k5, c6, k7, c8⟩, f6_, h7_⟩ := pullD_elim h4_
  replace f6_ := m_44_ok f6_
  obtain rfl := Option.some.inj h7_
  exact con_pc (op := true) (I := [12, 43]) (sp := axialOf_sp) 3000 (bF 1 []) [.tup [.agg [.list k0 c1, .list k2 c3], iD r4], .agg [.list k5 c6, .list k7 c8]] [c_bn b5_] [k_c f1_, k_c f6_] (by kernel_rfl)
def m_12 (ds : List D) : Option D := pullD (α := Nat × (List D) × Nat × (List D)) (some (.tup ds)) (fun d => ((D.ln (D.at (D.at d 0) 0)), (D.lc (D.at (D.at d 0) 0)), (D.ln (D.at (D.at d 0) 1)), (D.lc (D.at (D.at d 0) 1)))) (fun (ka, ca, kb, cb) => .tup [.agg [.list ka ca, .list kb cb]]) fun (ka, ca, kb, cb) => axialOf_M ka ca kb cb
theorem m_12_ok {ds : List D} {r : D} (h : m_12 ds = some r) : Con 12 ds r := by
  unfold m_12 at h
  obtain ⟨⟨ka, ca, kb, cb⟩, e0, h0⟩ := pullD_elim h
  obtain rfl := tup_inj e0
  exact axialOf_M_ok ka ca kb cb h0
theorem m_12_eq (ka : Nat) (ca : List D) (kb : Nat) (cb : List D) : m_12 [.agg [.list ka ca, .list kb cb]] = axialOf_M ka ca kb cb := pullD_some (ka, ca, kb, cb) rfl rfl
def thrustsOf_sp : List LSpec := []
def thrustsOf_M (ka : Nat) (ca : List D) (kb : Nat) (cb : List D) : Option D := pullD (α := Nat × (List D) × Nat × (List D) × Int) (m_40 [.agg [.list ka ca, .list kb cb]]) (fun d => ((D.ln (D.at (D.at d 0) 0)), (D.lc (D.at (D.at d 0) 0)), (D.ln (D.at (D.at d 0) 1)), (D.lc (D.at (D.at d 0) 1)), (D.vi (D.at d 1)))) (fun (k0, c1, k2, c3, r4) => .tup [.agg [.list k0 c1, .list k2 c3], iD r4]) fun (k0, c1, k2, c3, r4) => ((if r4 ≠ (0 : Int) then some (.tup [.agg [.list 0 [], .list 0 []], iD r4]) else pullD (α := Nat × (List D) × Nat × (List D)) (m_45 [.agg [.list k0 c1, .list k2 c3]]) (fun d => ((D.ln (D.at d 0)), (D.lc (D.at d 0)), (D.ln (D.at d 1)), (D.lc (D.at d 1)))) (fun (k5, c6, k7, c8) => .agg [.list k5 c6, .list k7 c8]) fun (k5, c6, k7, c8) => (some (.tup [.agg [.list k5 c6, .list k7 c8], iD (0 : Int)]))))
theorem thrustsOf_M_ok (ka : Nat) (ca : List D) (kb : Nat) (cb : List D) {r : D} (h : thrustsOf_M ka ca kb cb = some r) : Con 13 [.agg [.list ka ca, .list kb cb]] r := by
  unfold thrustsOf_M at h
  obtain ⟨⟨k0, c1, k2, c3, r4⟩, f1_, h2_⟩ := pullD_elim h
  replace f1_ := m_40_ok f1_
  by_cases b3_ : r4 ≠ (0 : Int)
  · have h4_ := (if_pos b3_).symm.trans h2_
    obtain rfl := Option.some.inj h4_
    exact con_pc (op := true) (I := [13, 43]) (sp := thrustsOf_sp) 3000 (bT 1 []) [.tup [.agg [.list k0 c1, .list k2 c3], iD r4]] [c_b b3_] [k_c f1_] (by kernel_rfl)
  have h4_ := (if_neg b3_).symm.trans h2_
  have b5_ : r4 = (0 : Int) := by first | exact b3_ | simpa using b3_
  obtain ⟨⟨k5, c6, k7, c8⟩, f6_, h7_⟩ := pullD_elim h4_
  replace f6_ := m_45_ok f6_
  obtain rfl := Option.some.inj h7_
  exact con_pc (op := true) (I := [13, 43]) (sp := thrustsOf_sp) 3000 (bF 1 []) [.tup [.agg [.list k0 c1, .list k2 c3], iD r4], .agg [.list k5 c6, .list k7 c8]] [c_bn b5_] [k_c f1_, k_c f6_] (by kernel_rfl)
def m_13 (ds : List D) : Option D := pullD (α := Nat × (List D) × Nat × (List D)) (some (.tup ds)) (fun d => ((D.ln (D.at (D.at d 0) 0)), (D.lc (D.at (D.at d 0) 0)), (D.ln (D.at (D.at d 0) 1)), (D.lc (D.at (D.at d 0) 1)))) (fun (ka, ca, kb, cb) => .tup [.agg [.list ka ca, .list kb cb]]) fun (ka, ca, kb, cb) => thrustsOf_M ka ca kb cb
theorem m_13_ok {ds : List D} {r : D} (h : m_13 ds = some r) : Con 13 ds r := by
  unfold m_13 at h
  obtain ⟨⟨ka, ca, kb, cb⟩, e0, h0⟩ := pullD_elim h
  obtain rfl := tup_inj e0
  exact thrustsOf_M_ok ka ca kb cb h0
theorem m_13_eq (ka : Nat) (ca : List D) (kb : Nat) (cb : List D) : m_13 [.agg [.list ka ca, .list kb cb]] = thrustsOf_M ka ca kb cb := pullD_some (ka, ca, kb, cb) rfl rfl
def unit0_sp : List LSpec := []
def unit0_M (ka : Nat) (ca : List D) (kb : Nat) (cb : List D) : Option D := pullD (α := Nat × (List D) × Nat × (List D)) (m_45 [.agg [.list ka ca, .list kb cb]]) (fun d => ((D.ln (D.at d 0)), (D.lc (D.at d 0)), (D.ln (D.at d 1)), (D.lc (D.at d 1)))) (fun (k0, c1, k2, c3) => .agg [.list k0 c1, .list k2 c3]) fun (k0, c1, k2, c3) => (pullD (α := Int) (m_69 [.list k0 c1]) (fun d => ((D.vi d))) (fun r4 => iD r4) fun r4 => (some (iD r4)))
theorem unit0_M_ok (ka : Nat) (ca : List D) (kb : Nat) (cb : List D) {r : D} (h : unit0_M ka ca kb cb = some r) : Con 49 [.agg [.list ka ca, .list kb cb], iD 0] r := by
  unfold unit0_M at h
  obtain ⟨⟨k0, c1, k2, c3⟩, f1_, h2_⟩ := pullD_elim h
  replace f1_ := m_45_ok f1_
  obtain ⟨r4, f3_, h4_⟩ := pullD_elim h2_
  replace f3_ := m_69_ok f3_
  obtain rfl := Option.some.inj h4_
  exact con_pc (op := true) (I := [49, 68]) (sp := unit0_sp) 3000 [] [.agg [.list k0 c1, .list k2 c3], iD r4] [] [k_c f1_, k_c f3_] (by kernel_rfl)
def m_49k0 (ds : List D) : Option D := pullD (α := Nat × (List D) × Nat × (List D)) (some (.tup ds)) (fun d => ((D.ln (D.at (D.at d 0) 0)), (D.lc (D.at (D.at d 0) 0)), (D.ln (D.at (D.at d 0) 1)), (D.lc (D.at (D.at d 0) 1)))) (fun (ka, ca, kb, cb) => .tup [.agg [.list ka ca, .list kb cb], iD 0]) fun (ka, ca, kb, cb) => unit0_M ka ca kb cb
theorem m_49k0_ok {ds : List D} {r : D} (h : m_49k0 ds = some r) : Con 49 ds r := by
  unfold m_49k0 at h
  obtain ⟨⟨ka, ca, kb, cb⟩, e0, h0⟩ := pullD_elim h
  obtain rfl := tup_inj e0
  exact unit0_M_ok ka ca kb cb h0
theorem m_49k0_eq (ka : Nat) (ca : List D) (kb : Nat) (cb : List D) : m_49k0 [.agg [.list ka ca, .list kb cb], iD 0] = unit0_M ka ca kb cb := pullD_some (ka, ca, kb, cb) rfl rfl
def unit1_sp : List LSpec := []
def unit1_M (ka : Nat) (ca : List D) (kb : Nat) (cb : List D) : Option D := pullD (α := Nat × (List D) × Nat × (List D)) (m_45 [.agg [.list ka ca, .list kb cb]]) (fun d => ((D.ln (D.at d 0)), (D.lc (D.at d 0)), (D.ln (D.at d 1)), (D.lc (D.at d 1)))) (fun (k0, c1, k2, c3) => .agg [.list k0 c1, .list k2 c3]) fun (k0, c1, k2, c3) => (pullD (α := Int) (m_69 [.list k2 c3]) (fun d => ((D.vi d))) (fun r4 => iD r4) fun r4 => (some (iD r4)))
theorem unit1_M_ok (ka : Nat) (ca : List D) (kb : Nat) (cb : List D) {r : D} (h : unit1_M ka ca kb cb = some r) : Con 49 [.agg [.list ka ca, .list kb cb], iD 1] r := by
  unfold unit1_M at h
  obtain ⟨⟨k0, c1, k2, c3⟩, f1_, h2_⟩ := pullD_elim h
  replace f1_ := m_45_ok f1_
  obtain ⟨r4, f3_, h4_⟩ := pullD_elim h2_
  replace f3_ := m_69_ok f3_
  obtain rfl := Option.some.inj h4_
  exact con_pc (op := true) (I := [49, 68]) (sp := unit1_sp) 3000 [] [.agg [.list k0 c1, .list k2 c3], iD r4] [] [k_c f1_, k_c f3_] (by kernel_rfl)
def m_49k1 (ds : List D) : Option D := pullD (α := Nat × (List D) × Nat × (List D)) (some (.tup ds)) (fun d => ((D.ln (D.at (D.at d 0) 0)), (D.lc (D.at (D.at d 0) 0)), (D.ln (D.at (D.at d 0) 1)), (D.lc (D.at (D.at d 0) 1)))) (fun (ka, ca, kb, cb) => .tup [.agg [.list ka ca, .list kb cb], iD 1]) fun (ka, ca, kb, cb) => unit1_M ka ca kb cb
theorem m_49k1_ok {ds : List D} {r : D} (h : m_49k1 ds = some r) : Con 49 ds r := by
  unfold m_49k1 at h
  obtain ⟨⟨ka, ca, kb, cb⟩, e0, h0⟩ := pullD_elim h
  obtain rfl := tup_inj e0
  exact unit1_M_ok ka ca kb cb h0
theorem m_49k1_eq (ka : Nat) (ca : List D) (kb : Nat) (cb : List D) : m_49k1 [.agg [.list ka ca, .list kb cb], iD 1] = unit1_M ka ca kb cb := pullD_some (ka, ca, kb, cb) rfl rfl
def unit2_sp : List LSpec := []
def unit2_M (ka : Nat) (ca : List D) (kb : Nat) (cb : List D) : Option D := pullD (α := Nat × (List D) × Nat × (List D)) (m_46 [.agg [.list ka ca, .list kb cb]]) (fun d => ((D.ln (D.at d 0)), (D.lc (D.at d 0)), (D.ln (D.at d 1)), (D.lc (D.at d 1)))) (fun (k0, c1, k2, c3) => .agg [.list k0 c1, .list k2 c3]) fun (k0, c1, k2, c3) => (pullD (α := Int) (m_69 [.list k0 c1]) (fun d => ((D.vi d))) (fun r4 => iD r4) fun r4 => (some (iD r4)))
theorem unit2_M_ok (ka : Nat) (ca : List D) (kb : Nat) (cb : List D) {r : D} (h : unit2_M ka ca kb cb = some r) : Con 49 [.agg [.list ka ca, .list kb cb], iD 2] r := by
  unfold unit2_M at h
  obtain ⟨⟨k0, c1, k2, c3⟩, f1_, h2_⟩ := pullD_elim h
  replace f1_ := m_46_ok f1_
  obtain ⟨r4, f3_, h4_⟩ := pullD_elim h2_
  replace f3_ := m_69_ok f3_
  obtain rfl := Option.some.inj h4_
  exact con_pc (op := true) (I := [49, 68]) (sp := unit2_sp) 3000 [] [.agg [.list k0 c1, .list k2 c3], iD r4] [] [k_c f1_, k_c f3_] (by kernel_rfl)
def m_49k2 (ds : List D) : Option D := pullD (α := Nat × (List D) × Nat × (List D)) (some (.tup ds)) (fun d => ((D.ln (D.at (D.at d 0) 0)), (D.lc (D.at (D.at d 0) 0)), (D.ln (D.at (D.at d 0) 1)), (D.lc (D.at (D.at d 0) 1)))) (fun (ka, ca, kb, cb) => .tup [.agg [.list ka ca, .list kb cb], iD 2]) fun (ka, ca, kb, cb) => unit2_M ka ca kb cb
theorem m_49k2_ok {ds : List D} {r : D} (h : m_49k2 ds = some r) : Con 49 ds r := by
  unfold m_49k2 at h
  obtain ⟨⟨ka, ca, kb, cb⟩, e0, h0⟩ := pullD_elim h
  obtain rfl := tup_inj e0
  exact unit2_M_ok ka ca kb cb h0
theorem m_49k2_eq (ka : Nat) (ca : List D) (kb : Nat) (cb : List D) : m_49k2 [.agg [.list ka ca, .list kb cb], iD 2] = unit2_M ka ca kb cb := pullD_some (ka, ca, kb, cb) rfl rfl
def unit3_sp : List LSpec := []
def unit3_M (ka : Nat) (ca : List D) (kb : Nat) (cb : List D) : Option D := pullD (α := Nat × (List D) × Nat × (List D)) (m_46 [.agg [.list ka ca, .list kb cb]]) (fun d => ((D.ln (D.at d 0)), (D.lc (D.at d 0)), (D.ln (D.at d 1)), (D.lc (D.at d 1)))) (fun (k0, c1, k2, c3) => .agg [.list k0 c1, .list k2 c3]) fun (k0, c1, k2, c3) => (pullD (α := Int) (m_69 [.list k2 c3]) (fun d => ((D.vi d))) (fun r4 => iD r4) fun r4 => (some (iD r4)))
theorem unit3_M_ok (ka : Nat) (ca : List D) (kb : Nat) (cb : List D) {r : D} (h : unit3_M ka ca kb cb = some r) : Con 49 [.agg [.list ka ca, .list kb cb], iD 3] r := by
  unfold unit3_M at h
  obtain ⟨⟨k0, c1, k2, c3⟩, f1_, h2_⟩ := pullD_elim h
  replace f1_ := m_46_ok f1_
  obtain ⟨r4, f3_, h4_⟩ := pullD_elim h2_
  replace f3_ := m_69_ok f3_
  obtain rfl := Option.some.inj h4_
  exact con_pc (op := true) (I := [49, 68]) (sp := unit3_sp) 3000 [] [.agg [.list k0 c1, .list k2 c3], iD r4] [] [k_c f1_, k_c f3_] (by kernel_rfl)
def m_49k3 (ds : List D) : Option D := pullD (α := Nat × (List D) × Nat × (List D)) (some (.tup ds)) (fun d => ((D.ln (D.at (D.at d 0) 0)), (D.lc (D.at (D.at d 0) 0)), (D.ln (D.at (D.at d 0) 1)), (D.lc (D.at (D.at d 0) 1)))) (fun (ka, ca, kb, cb) => .tup [.agg [.list ka ca, .list kb cb], iD 3]) fun (ka, ca, kb, cb) => unit3_M ka ca kb cb
theorem m_49k3_ok {ds : List D} {r : D} (h : m_49k3 ds = some r) : Con 49 ds r := by
  unfold m_49k3 at h
  obtain ⟨⟨ka, ca, kb, cb⟩, e0, h0⟩ := pullD_elim h
  obtain rfl := tup_inj e0
  exact unit3_M_ok ka ca kb cb h0
theorem m_49k3_eq (ka : Nat) (ca : List D) (kb : Nat) (cb : List D) : m_49k3 [.agg [.list ka ca, .list kb cb], iD 3] = unit3_M ka ca kb cb := pullD_some (ka, ca, kb, cb) rfl rfl
def m_49 (ds : List D) : Option D := m_49k0 ds <|> m_49k1 ds <|> m_49k2 ds <|> m_49k3 ds
theorem m_49_ok {ds : List D} {r : D} (h : m_49 ds = some r) : Con 49 ds r := by
  unfold m_49 at h
  rcases orElse_elim h with h | h
  · exact m_49k0_ok h
  rcases orElse_elim h with h | h
  · exact m_49k1_ok h
  rcases orElse_elim h with h | h
  · exact m_49k2_ok h
  exact m_49k3_ok h
def unitOf_sp : List LSpec := []
def unitOf_M (ka : Nat) (ca : List D) (kb : Nat) (cb : List D) (n : Int) : Option D := pullD (α := Nat × (List D) × Nat × (List D) × Int) (m_40 [.agg [.list ka ca, .list kb cb]]) (fun d => ((D.ln (D.at (D.at d 0) 0)), (D.lc (D.at (D.at d 0) 0)), (D.ln (D.at (D.at d 0) 1)), (D.lc (D.at (D.at d 0) 1)), (D.vi (D.at d 1)))) (fun (k0, c1, k2, c3, r4) => .tup [.agg [.list k0 c1, .list k2 c3], iD r4]) fun (k0, c1, k2, c3, r4) => (pullD (α := Int) (m_48 [iD n]) (fun d => ((D.vi d))) (fun r5 => iD r5) fun r5 => (pullD (α := Int) (m_47 [.list 2 [iD r4, iD r5]]) (fun d => ((D.vi d))) (fun r6 => iD r6) fun r6 => ((if r6 ≠ (0 : Int) then some (.tup [iD (0 : Int), iD r6]) else pullD (α := Int) (m_49 [.agg [.list k0 c1, .list k2 c3], iD n]) (fun d => ((D.vi d))) (fun r7 => iD r7) fun r7 => (some (.tup [iD r7, iD (0 : Int)]))))))
theorem unitOf_M_ok (ka : Nat) (ca : List D) (kb : Nat) (cb : List D) (n : Int) {r : D} (h : unitOf_M ka ca kb cb n = some r) : Con 15 [.agg [.list ka ca, .list kb cb], iD n] r := by
  unfold unitOf_M at h
  obtain ⟨⟨k0, c1, k2, c3, r4⟩, f1_, h2_⟩ := pullD_elim h
  replace f1_ := m_40_ok f1_
  obtain ⟨r5, f3_, h4_⟩ := pullD_elim h2_
  replace f3_ := m_48_ok f3_
  obtain ⟨r6, f5_, h6_⟩ := pullD_elim h4_
  replace f5_ := m_47_ok f5_
  by_cases b7_ : r6 ≠ (0 : Int)
  · have h8_ := (if_pos b7_).symm.trans h6_
    obtain rfl := Option.some.inj h8_
    exact con_pc (op := true) (I := [15]) (sp := unitOf_sp) 3000 (bT 1 []) [.tup [.agg [.list k0 c1, .list k2 c3], iD r4], iD r5, iD r6] [c_le 1, c_b b7_] [k_c f1_, k_c f3_, k_c f5_] (by kernel_rfl)
  have h8_ := (if_neg b7_).symm.trans h6_
  have b9_ : r6 = (0 : Int) := by first | exact b7_ | simpa using b7_
  obtain ⟨r7, f10_, h11_⟩ := pullD_elim h8_
  replace f10_ := m_49_ok f10_
  obtain rfl := Option.some.inj h11_
  exact con_pc (op := true) (I := [15]) (sp := unitOf_sp) 3000 (bF 1 []) [.tup [.agg [.list k0 c1, .list k2 c3], iD r4], iD r5, iD r6, iD r7] [c_le 1, c_bn b9_] [k_c f1_, k_c f3_, k_c f5_, k_c f10_] (by kernel_rfl)
def m_15 (ds : List D) : Option D := pullD (α := Nat × (List D) × Nat × (List D) × Int) (some (.tup ds)) (fun d => ((D.ln (D.at (D.at d 0) 0)), (D.lc (D.at (D.at d 0) 0)), (D.ln (D.at (D.at d 0) 1)), (D.lc (D.at (D.at d 0) 1)), (D.vi (D.at d 1)))) (fun (ka, ca, kb, cb, n) => .tup [.agg [.list ka ca, .list kb cb], iD n]) fun (ka, ca, kb, cb, n) => unitOf_M ka ca kb cb n
theorem m_15_ok {ds : List D} {r : D} (h : m_15 ds = some r) : Con 15 ds r := by
  unfold m_15 at h
  obtain ⟨⟨ka, ca, kb, cb, n⟩, e0, h0⟩ := pullD_elim h
  obtain rfl := tup_inj e0
  exact unitOf_M_ok ka ca kb cb n h0
theorem m_15_eq (ka : Nat) (ca : List D) (kb : Nat) (cb : List D) (n : Int) : m_15 [.agg [.list ka ca, .list kb cb], iD n] = unitOf_M ka ca kb cb n := pullD_some (ka, ca, kb, cb, n) rfl rfl
end
end Go.Proofs.Ytbfefnfmdkgfjaa
/- Windows: residuals, axial and radial forces, thrusts. -/
namespace Go.Proofs.Ytbfefnfmdkgfjaa
open Go.Ev Go.RowKit
set_option maxRecDepth 100000
section
variable {a b : List Int}
/-- The residual at a boundary, the axial and the radial forces at a level. -/
def rs (a b : List Int) (k : Nat) : Int := sumTo (fun j => at' a j + at' b j) k
def ax (t a b : List Int) (i : Nat) : Int := at' t i * (rs a b i + rs a b (i + 1))
def rx (a b : List Int) (i : Nat) : Int := at' a i * (at' a i - at' b i)
def ry (a b : List Int) (i : Nat) : Int := -at' b i * (at' a i - at' b i)
theorem rs_bound (h : Win a b) {k : Nat} (hk : k ≤ 20) : -4000 ≤ rs a b k ∧ rs a b k ≤ 4000 := by
  have := sumTo_bound (f := fun j => at' a j + at' b j) (B := 200) (k := k) fun i _ => by have := h.ra i; have := h.rb i; omega
  unfold rs; omega
theorem ax_bound (h : Win a b) {t : List Int} (ht : ∀ i, -100 ≤ at' t i ∧ at' t i ≤ 100) {i : Nat} (hi : i < 20) : -800000 ≤ ax t a b i ∧ ax t a b i ≤ 800000 := by
  have h1 := rs_bound h (k := i) (by omega)
  have h2 := rs_bound h (k := i + 1) (by omega)
  have h3 := ht i
  have := mulB (x := at' t i) (y := rs a b i + rs a b (i + 1)) (A := 100) (B := 8000) (by omega) (by omega) (by omega) (by omega)
  unfold ax; omega
theorem rx_bound (h : Win a b) (i : Nat) : -20000 ≤ rx a b i ∧ rx a b i ≤ 20000 := by
  have h1 := h.ra i
  have h2 := h.rb i
  have := mulB (x := at' a i) (y := at' a i - at' b i) (A := 100) (B := 200) (by omega) (by omega) (by omega) (by omega)
  unfold rx; omega
theorem ry_bound (h : Win a b) (i : Nat) : -20000 ≤ ry a b i ∧ ry a b i ≤ 20000 := by
  have h1 := h.ra i
  have h2 := h.rb i
  have := mulB (x := -at' b i) (y := at' a i - at' b i) (A := 100) (B := 200) (by omega) (by omega) (by omega) (by omega)
  unfold ry; omega
theorem cells_int (l : List Int) : ∀ u : D, u ∈ l.map iD → cellD u := by
  intro u hu
  obtain ⟨x, -, rfl⟩ := List.mem_map.1 hu
  rfl
theorem residuals_eq (h : Win a b) : m_41 [wnD a b] = some (lD (tab (a.length + 1) (rs a b))) := by
  have hp := h.pos
  have hle := h.le
  have hlen := h.len
  rw [m_41_eq]
  unfold residuals_M
  rw [guardP_pos hp, guardP_pos ⟨cells_int a, Nat.le_refl _, by omega, by omega⟩, guardP_pos (by simp)]
  have h1 : runR (residuals_L3_S a.length (a.map iD) b.length (b.map iD)) (.next 0 [iD 0, .list (0 + a.length) ((tab a.length fun j => if j < 0 then at' a j + at' b j else at' a j).map iD)]) = _ := runR_scan (S := residuals_L3_S a.length (a.map iD) b.length (b.map iD)) (fun _ => 0) (fun i => [iD (i : Int), .list (0 + a.length) ((tab a.length fun j => if j < i then at' a j + at' b j else at' a j).map iD)]) (Nat.zero_le a.length) (fun i _ hi => by
    show residuals_L3_S0 a.length (a.map iD) b.length (b.map iD) _ = _
    unfold residuals_L3_S0
    rw [pullD_some ((i : Int), 0 + a.length, (tab a.length fun j => if j < i then at' a j + at' b j else at' a j).map iD) (by rfl) (by rfl)]
    dsimp only
    have e2 : IntKind.i64.wrap ((i : Int) + 1) = ((i + 1 : Nat) : Int) := natI (by omega)
    have ha := h.ra i
    have hb := h.rb i
    simp only [e2, Int.toNat_natCast]
    rw [if_pos (by omega), guardP_pos (by omega), readN (by omega), pullD_some (at' b i) (by rfl) (by rfl), guardP_pos (by omega), readM0 _ hi, pullD_some (if i < i then at' a i + at' b i else at' a i) (by rfl) (by rfl), if_neg (Nat.lt_irrefl i), guardP_pos ⟨by simp [tab_len]; omega, cellD_int _⟩, wrapJ (at' a i + at' b i) (by omega) (by omega), set_list _ _ _ (by rw [tab_len]; omega), tab_set]
    have h5 : (tab a.length fun j => if j = i then at' a i + at' b i else if j < i then at' a j + at' b j else at' a j) = tab a.length fun j => if j < i + 1 then at' a j + at' b j else at' a j := tab_congr fun j hj => by
      by_cases h3 : j = i
      · subst h3; simp
      · simp only [h3, if_false]
        by_cases h4 : j < i
        · rw [if_pos h4, if_pos (by omega)]
        · rw [if_neg h4, if_neg (by omega)]
    rw [h5])
  have h2 : runR (residuals_L3_S a.length (a.map iD) b.length (b.map iD)) (.next 0 [iD (a.length : Int), .list (0 + a.length) ((tab a.length fun j => if j < a.length then at' a j + at' b j else at' a j).map iD)]) = some (.out 0 [.list (0 + a.length) ((tab a.length fun j => if j < a.length then at' a j + at' b j else at' a j).map iD)]) := runR_exit (by
    show residuals_L3_S0 a.length (a.map iD) b.length (b.map iD) _ = _
    unfold residuals_L3_S0
    rw [pullD_some ((a.length : Int), 0 + a.length, (tab a.length fun j => if j < a.length then at' a j + at' b j else at' a j).map iD) (by rfl) (by rfl)]
    dsimp only
    rw [if_neg (by omega)])
  have h0 : (tab a.length fun j => if j < 0 then at' a j + at' b j else at' a j) = a := by
    rw [tab_congr (g := at' a) fun j _ => if_neg (Nat.not_lt_zero j), tab_of]
  rw [h0] at h1
  have h3 : (tab a.length fun j => if j < a.length then at' a j + at' b j else at' a j) = tab a.length fun j => at' a j + at' b j := tab_congr fun j hj => if_pos hj
  rw [bindL_some (h1.trans h2), if_pos rfl, h3, pullD_some (0 + a.length, (tab a.length fun j => at' a j + at' b j).map iD) (by rfl) (by rfl)]
  dsimp only
  rw [guardP_pos (by simp [tab_len])]
  have hat : ∀ k, k ≤ a.length → sumTo (at' (tab a.length fun j => at' a j + at' b j)) k = rs a b k := fun k hk => sumTo_congr fun i hi => tab_at _ (by omega)
  have h4 := sums_eq (tab a.length fun j => at' a j + at' b j) (by rw [tab_len]; omega) (fun k hk => by
    rw [tab_len] at hk
    rw [hat k hk]
    have := rs_bound h (k := k) (by omega)
    omega)
  have h6 : D.list (0 + a.length) ((tab a.length fun j => at' a j + at' b j).map iD) = lD (tab a.length fun j => at' a j + at' b j) := by simp only [lD, tab_len, Nat.zero_add]
  rw [h6, h4, tab_len, tab_congr fun i hi => hat i (by omega), pullD_some (a.length + 1, (tab (a.length + 1) (rs a b)).map iD) (by simp only [lD, tab_len]) (by rfl)]
  simp only [lD, tab_len]
theorem radial_eq (h : Win a b) : m_46 [wnD a b] = some (.agg [lD (tab a.length (rx a b)), lD (tab a.length (ry a b))]) := by
  have hp := h.pos
  have hle := h.le
  have hlen := h.len
  rw [m_46_eq]
  unfold radial_M
  obtain ⟨m, hm⟩ : ∃ m, a.length = m + 1 := ⟨a.length - 1, by omega⟩
  have key : ∀ i, i < a.length → IntKind.i64.wrap (at' a i * IntKind.i64.wrap (at' a i - at' b i)) = rx a b i ∧ IntKind.i64.wrap (IntKind.i64.wrap (0 - at' b i) * IntKind.i64.wrap (at' a i - at' b i)) = ry a b i := fun i hi => by
    have ha := h.ra i
    have hb := h.rb i
    have h1 := rx_bound h i
    have h2 := ry_bound h i
    rw [wrapJ (at' a i - at' b i) (by omega) (by omega), wrapJ (0 - at' b i) (by omega) (by omega), Int.zero_sub]
    exact ⟨wrapJ _ (by unfold rx at h1; omega) (by unfold rx at h1; omega), wrapJ _ (by unfold ry at h2; omega) (by unfold ry at h2; omega)⟩
  have h1 : runR (radial_L3_S a.length (a.map iD) b.length (b.map iD)) (.next 3 [iD 0, .one (.tuple #[]), .one (.tuple #[])]) = _ := runR_scan (S := radial_L3_S a.length (a.map iD) b.length (b.map iD)) (fun i => match i with | 0 => 3 | _ + 1 => 0)
    (fun i => match i with | 0 => [iD 0, .one (.tuple #[]), .one (.tuple #[])] | i + 1 => [iD ((i + 1 : Nat) : Int), lD (tab (i + 1) (rx a b)), lD (tab (i + 1) (ry a b))]) (Nat.zero_le (m + 1)) (fun i _ hi => by
    replace hi : i < a.length := by omega
    obtain ⟨k1, k2⟩ := key i hi
    cases i with
    | zero =>
      show radial_L3_S3 a.length (a.map iD) b.length (b.map iD) _ = _
      unfold radial_L3_S3
      rw [pullD_some ((0 : Nat) : Int) (by rfl) (by rfl)]
      have e2 : IntKind.i64.wrap (((0 : Nat) : Int) + 1) = ((0 + 1 : Nat) : Int) := natI (by omega)
      simp only [e2, Int.toNat_natCast]
      rw [if_pos (by omega), guardP_pos (by omega), readN hi, pullD_some (at' a 0) (by rfl) (by rfl), guardP_pos (by omega), readN (by omega), pullD_some (at' b 0) (by rfl) (by rfl), k1, k2]
      rfl
    | succ i =>
      show radial_L3_S0 a.length (a.map iD) b.length (b.map iD) _ = _
      unfold radial_L3_S0
      rw [pullD_some (((i + 1 : Nat) : Int), (tab (i + 1) (rx a b)).length, (tab (i + 1) (rx a b)).map iD, (tab (i + 1) (ry a b)).length, (tab (i + 1) (ry a b)).map iD) (by rfl) (by rfl)]
      dsimp only
      have e2 : IntKind.i64.wrap (((i + 1 : Nat) : Int) + 1) = ((i + 1 + 1 : Nat) : Int) := natI (by omega)
      simp only [e2, Int.toNat_natCast]
      rw [if_pos (by omega), guardP_pos (by omega), readN hi, pullD_some (at' a (i + 1)) (by rfl) (by rfl), guardP_pos (by omega), readN (by omega), pullD_some (at' b (i + 1)) (by rfl) (by rfl), k1, k2,
        guardP_pos ⟨cellD_int _, by simp, by simp only [tab_len]; omega, by simp only [tab_len]; omega⟩, guardP_pos ⟨cellD_int _, by simp, by simp only [tab_len]; omega, by simp only [tab_len]; omega⟩, grow_list, grow_list, ← tab_succ, ← tab_succ])
  have h2 : runR (radial_L3_S a.length (a.map iD) b.length (b.map iD)) (.next 0 [iD ((m + 1 : Nat) : Int), lD (tab (m + 1) (rx a b)), lD (tab (m + 1) (ry a b))]) = some (.out 0 [lD (tab (m + 1) (rx a b)), lD (tab (m + 1) (ry a b))]) := runR_exit (by
    show radial_L3_S0 a.length (a.map iD) b.length (b.map iD) _ = _
    unfold radial_L3_S0
    rw [pullD_some (((m + 1 : Nat) : Int), (tab (m + 1) (rx a b)).length, (tab (m + 1) (rx a b)).map iD, (tab (m + 1) (ry a b)).length, (tab (m + 1) (ry a b)).map iD) (by rfl) (by rfl)]
    dsimp only
    rw [if_neg (by omega)])
  have h3 := h1.trans h2
  rw [bindL_some h3, if_pos rfl, pullD_some ((tab (m + 1) (rx a b)).length, (tab (m + 1) (rx a b)).map iD, (tab (m + 1) (ry a b)).length, (tab (m + 1) (ry a b)).map iD) (by rfl) (by rfl)]
  dsimp only
  rw [guardP_pos ⟨by simp, by omega⟩, guardP_pos ⟨by simp, by omega⟩, hm]
end
end Go.Proofs.Ytbfefnfmdkgfjaa
/- Windows: axial forces, thrusts; what is checked. -/
namespace Go.Proofs.Ytbfefnfmdkgfjaa
open Go.Ev Go.RowKit
set_option maxRecDepth 100000
section
variable {a b : List Int}
theorem ax_wrap (h : Win a b) {t : List Int} (ht : ∀ i, -100 ≤ at' t i ∧ at' t i ≤ 100) {i : Nat} (hi : i < 16) : IntKind.i64.wrap (at' t i * IntKind.i64.wrap (rs a b i + rs a b (i + 1))) = ax t a b i := by
  have h1 := rs_bound h (k := i) (by omega)
  have h2 := rs_bound h (k := i + 1) (by omega)
  have h3 := ax_bound h ht (i := i) (by omega)
  rw [wrapJ (rs a b i + rs a b (i + 1)) (by omega) (by omega)]
  unfold ax at h3 ⊢
  exact wrapJ _ (by omega) (by omega)
theorem axial_one (h : Win a b) (S : Rd → Option Rd) (h3 : ∀ ds, S (.next 3 ds) = axial_L7_S3 a.length (a.map iD) b.length (b.map iD) (a.length + 1) ((tab (a.length + 1) (rs a b)).map iD) ds)
    (h2 : ∀ ds, S (.next 2 ds) = axial_L7_S2 a.length (a.map iD) b.length (b.map iD) (a.length + 1) ((tab (a.length + 1) (rs a b)).map iD) ds) :
    runR S (.next 3 [iD 0, .one (.tuple #[]), .one (.tuple #[])]) = some (.out 2 [lD (tab a.length (ax a a b)), .one (.tuple #[])]) := by
  have hp := h.pos
  have hle := h.le
  obtain ⟨m, hm⟩ : ∃ m, a.length = m + 1 := ⟨a.length - 1, by omega⟩
  have h1 : runR S (.next 3 [iD 0, .one (.tuple #[]), .one (.tuple #[])]) = _ := runR_scan (S := S) (fun i => match i with | 0 => 3 | _ + 1 => 2)
    (fun i => match i with | 0 => [iD 0, .one (.tuple #[]), .one (.tuple #[])] | i + 1 => [iD ((i + 1 : Nat) : Int), lD (tab (i + 1) (ax a a b)), .one (.tuple #[])]) (Nat.zero_le (m + 1)) (fun i _ hi => by
    replace hi : i < a.length := by omega
    have k1 := ax_wrap h h.ra (i := i) (by omega)
    cases i with
    | zero =>
      show S (.next 3 _) = _
      rw [h3]
      unfold axial_L7_S3
      rw [pullD_some ((0 : Nat) : Int) (by rfl) (by rfl)]
      have e2 : IntKind.i64.wrap (((0 : Nat) : Int) + 1) = ((0 + 1 : Nat) : Int) := natI (by omega)
      simp only [e2, Int.toNat_natCast]
      rw [if_pos (by omega), guardP_pos (by omega), readN hi, pullD_some (at' a 0) (by rfl) (by rfl), guardP_pos (by omega), readM _ (by omega), pullD_some (rs a b 0) (by rfl) (by rfl), guardP_pos (by omega), readM _ (by omega), pullD_some (rs a b (0 + 1)) (by rfl) (by rfl), k1]
      rfl
    | succ i =>
      show S (.next 2 _) = _
      rw [h2]
      unfold axial_L7_S2
      rw [pullD_some (((i + 1 : Nat) : Int), (tab (i + 1) (ax a a b)).length, (tab (i + 1) (ax a a b)).map iD) (by rfl) (by rfl)]
      dsimp only
      have e2 : IntKind.i64.wrap (((i + 1 : Nat) : Int) + 1) = ((i + 1 + 1 : Nat) : Int) := natI (by omega)
      simp only [e2, Int.toNat_natCast]
      rw [if_pos (by omega), guardP_pos (by omega), readN hi, pullD_some (at' a (i + 1)) (by rfl) (by rfl), guardP_pos (by omega), readM _ (by omega), pullD_some (rs a b (i + 1)) (by rfl) (by rfl), guardP_pos (by omega), readM _ (by omega), pullD_some (rs a b (i + 1 + 1)) (by rfl) (by rfl), k1,
        guardP_pos ⟨cellD_int _, by simp, by simp only [tab_len]; omega, by simp only [tab_len]; omega⟩, grow_list, ← tab_succ])
  have h4 : runR S (.next 2 [iD ((m + 1 : Nat) : Int), lD (tab (m + 1) (ax a a b)), .one (.tuple #[])]) = some (.out 2 [lD (tab (m + 1) (ax a a b)), .one (.tuple #[])]) := runR_exit (by
    rw [h2]
    unfold axial_L7_S2
    rw [pullD_some (((m + 1 : Nat) : Int), (tab (m + 1) (ax a a b)).length, (tab (m + 1) (ax a a b)).map iD) (by rfl) (by rfl)]
    dsimp only
    rw [if_neg (by omega)])
  rw [h1.trans h4, hm]
theorem axial_two (h : Win a b) (L : List Int) (x2 : Nat) (x3 : List D) (S : Rd → Option Rd) (h2 : ∀ ds, S (.next 2 ds) = axial_L7_3_S2 a.length (a.map iD) b.length (b.map iD) (a.length + 1) ((tab (a.length + 1) (rs a b)).map iD) x2 x3 ds)
    (h0 : ∀ ds, S (.next 0 ds) = axial_L7_3_S0 a.length (a.map iD) b.length (b.map iD) (a.length + 1) ((tab (a.length + 1) (rs a b)).map iD) x2 x3 ds) :
    runR S (.next 2 [iD 0, lD L, .one (.tuple #[])]) = some (.out 0 [lD L, lD (tab a.length (ax b a b))]) := by
  have hp := h.pos
  have hle := h.le
  have hlen := h.len
  obtain ⟨m, hm⟩ : ∃ m, a.length = m + 1 := ⟨a.length - 1, by omega⟩
  have h1 : runR S (.next 2 [iD 0, lD L, .one (.tuple #[])]) = _ := runR_scan (S := S) (fun i => match i with | 0 => 2 | _ + 1 => 0)
    (fun i => match i with | 0 => [iD 0, lD L, .one (.tuple #[])] | i + 1 => [iD ((i + 1 : Nat) : Int), lD L, lD (tab (i + 1) (ax b a b))]) (Nat.zero_le (m + 1)) (fun i _ hi => by
    replace hi : i < b.length := by omega
    have k1 := ax_wrap h h.rb (i := i) (by omega)
    cases i with
    | zero =>
      show S (.next 2 _) = _
      rw [h2]
      unfold axial_L7_3_S2
      rw [pullD_some (((0 : Nat) : Int), L.length, L.map iD) (by rfl) (by rfl)]
      dsimp only
      have e2 : IntKind.i64.wrap (((0 : Nat) : Int) + 1) = ((0 + 1 : Nat) : Int) := natI (by omega)
      simp only [e2, Int.toNat_natCast]
      rw [if_pos (by omega), guardP_pos (by omega), readN hi, pullD_some (at' b 0) (by rfl) (by rfl), guardP_pos (by omega), readM _ (by omega), pullD_some (rs a b 0) (by rfl) (by rfl), guardP_pos (by omega), readM _ (by omega), pullD_some (rs a b (0 + 1)) (by rfl) (by rfl), k1]
      rfl
    | succ i =>
      show S (.next 0 _) = _
      rw [h0]
      unfold axial_L7_3_S0
      rw [pullD_some (((i + 1 : Nat) : Int), L.length, L.map iD, (tab (i + 1) (ax b a b)).length, (tab (i + 1) (ax b a b)).map iD) (by rfl) (by rfl)]
      dsimp only
      have e2 : IntKind.i64.wrap (((i + 1 : Nat) : Int) + 1) = ((i + 1 + 1 : Nat) : Int) := natI (by omega)
      simp only [e2, Int.toNat_natCast]
      rw [if_pos (by omega), guardP_pos (by omega), readN hi, pullD_some (at' b (i + 1)) (by rfl) (by rfl), guardP_pos (by omega), readM _ (by omega), pullD_some (rs a b (i + 1)) (by rfl) (by rfl), guardP_pos (by omega), readM _ (by omega), pullD_some (rs a b (i + 1 + 1)) (by rfl) (by rfl), k1,
        guardP_pos ⟨cellD_int _, by simp, by simp only [tab_len]; omega, by simp only [tab_len]; omega⟩, grow_list, ← tab_succ])
  have h4 : runR S (.next 0 [iD ((m + 1 : Nat) : Int), lD L, lD (tab (m + 1) (ax b a b))]) = some (.out 0 [lD L, lD (tab (m + 1) (ax b a b))]) := runR_exit (by
    rw [h0]
    unfold axial_L7_3_S0
    rw [pullD_some (((m + 1 : Nat) : Int), L.length, L.map iD, (tab (m + 1) (ax b a b)).length, (tab (m + 1) (ax b a b)).map iD) (by rfl) (by rfl)]
    dsimp only
    rw [if_neg (by omega)])
  rw [h1.trans h4, hm]
theorem axial_eq (h : Win a b) : m_44 [wnD a b] = some (.agg [lD (tab a.length (ax a a b)), lD (tab a.length (ax b a b))]) := by
  rw [m_44_eq]
  unfold axial_M
  rw [show [D.agg [D.list a.length (a.map iD), D.list b.length (b.map iD)]] = [wnD a b] from rfl, residuals_eq h, pullD_some (a.length + 1, (tab (a.length + 1) (rs a b)).map iD) (by simp only [lD, tab_len]) (by rfl)]
  dsimp only
  rw [bindL_some (axial_one h (axial_L7_S a.length (a.map iD) b.length (b.map iD) (a.length + 1) ((tab (a.length + 1) (rs a b)).map iD)) (fun _ => rfl) (fun _ => rfl)), if_neg (by decide), if_neg (by decide), if_pos rfl, pullD_some ((tab a.length (ax a a b)).length, (tab a.length (ax a a b)).map iD) (by rfl) (by rfl)]
  dsimp only
  rw [bindL_some (axial_two h (tab a.length (ax a a b)) (tab a.length (ax a a b)).length ((tab a.length (ax a a b)).map iD) (axial_L7_3_S a.length (a.map iD) b.length (b.map iD) (a.length + 1) ((tab (a.length + 1) (rs a b)).map iD) (tab a.length (ax a a b)).length ((tab a.length (ax a a b)).map iD)) (fun _ => rfl) (fun _ => rfl)), if_pos rfl,
    pullD_some ((tab a.length (ax a a b)).length, (tab a.length (ax a a b)).map iD, (tab a.length (ax b a b)).length, (tab a.length (ax b a b)).map iD) (by rfl) (by rfl)]
  dsimp only
  rw [guardP_pos ⟨by simp, by omega⟩, guardP_pos ⟨by simp, by omega⟩]
/-- The thrust at a boundary. -/
def th (t a b : List Int) (k : Nat) : Int := sumTo (ax t a b) k
theorem th_bound (h : Win a b) {t : List Int} (ht : ∀ i, -100 ≤ at' t i ∧ at' t i ≤ 100) {k : Nat} (hk : k ≤ 20) : -16000000 ≤ th t a b k ∧ th t a b k ≤ 16000000 := by
  have := sumTo_bound (f := ax t a b) (B := 800000) (k := k) fun i hi => ax_bound h ht (by omega)
  unfold th; omega
theorem sums_ax (h : Win a b) {t : List Int} (ht : ∀ i, -100 ≤ at' t i ∧ at' t i ≤ 100) : m_66 [lD (tab a.length (ax t a b))] = some (lD (tab (a.length + 1) (th t a b))) := by
  have hle := h.le
  have hat : ∀ k, k ≤ a.length → sumTo (at' (tab a.length (ax t a b))) k = th t a b k := fun k hk => sumTo_congr fun i hi => tab_at _ (by omega)
  rw [sums_eq _ (by rw [tab_len]; omega) (fun k hk => by
    rw [tab_len] at hk
    rw [hat k hk]
    have := th_bound h ht (k := k) (by omega)
    omega), tab_len, tab_congr fun i hi => hat i (by omega)]
theorem thrusts_eq (h : Win a b) : m_45 [wnD a b] = some (.agg [lD (tab (a.length + 1) (th a a b)), lD (tab (a.length + 1) (th b a b))]) := by
  rw [m_45_eq]
  unfold thrusts_M
  rw [show [D.agg [D.list a.length (a.map iD), D.list b.length (b.map iD)]] = [wnD a b] from rfl, axial_eq h, pullD_some ((tab a.length (ax a a b)).length, (tab a.length (ax a a b)).map iD, (tab a.length (ax b a b)).length, (tab a.length (ax b a b)).map iD) (by rfl) (by rfl)]
  dsimp only
  rw [show [D.list (tab a.length (ax a a b)).length ((tab a.length (ax a a b)).map iD)] = [lD (tab a.length (ax a a b))] from rfl, sums_ax h h.ra, pullD_some ((tab (a.length + 1) (th a a b)).length, (tab (a.length + 1) (th a a b)).map iD) (by rfl) (by rfl)]
  dsimp only
  rw [show [D.list (tab a.length (ax b a b)).length ((tab a.length (ax b a b)).map iD)] = [lD (tab a.length (ax b a b))] from rfl, sums_ax h h.rb, pullD_some ((tab (a.length + 1) (th b a b)).length, (tab (a.length + 1) (th b a b)).map iD) (by rfl) (by rfl)]
/-! What is checked. -/
theorem chk_loop (l : List Int) (hl : l.length ≤ 1000) (hr : ∀ i, -100 ≤ at' l i ∧ at' l i ≤ 100) (kk : Nat) (cc : List D) (S : Rd → Option Rd) (hS : ∀ ds, S (.next 0 ds) = chkWindow_L71_2_S0 l.length (l.map iD) kk cc ds) : runR S (.next 0 [iD 0]) = some (.out 0 []) := by
  have h1 : runR S (.next 0 [iD 0]) = _ := runR_scan (S := S) (fun _ => 0) (fun i => [iD (i : Int)]) (Nat.zero_le l.length) (fun i _ hi => by
    show S (.next 0 _) = _
    rw [hS]
    unfold chkWindow_L71_2_S0
    rw [pullD_some (i : Int) (by rfl) (by rfl)]
    have := hr i
    rw [if_pos (by omega), guardP_pos (by omega), readA hi, pullD_some (at' l i) (by rfl) (by rfl), if_neg (by omega), if_neg (by omega), natI (by omega)])
  refine h1.trans (runR_exit ?_)
  rw [hS]
  unfold chkWindow_L71_2_S0
  rw [pullD_some (l.length : Int) (by rfl) (by rfl), if_neg (by omega)]
theorem first_eq (l : List Int) (hl : l.length ≤ 1000) : m_47 [lD l] = some (iD ((l.find? fun x => x != 0).getD 0)) := by
  rw [m_47_eq]
  unfold firstOf_M
  have key : ∀ m i, i + m = l.length → runR (firstOf_L2_S l.length (l.map iD)) (.next 0 [iD (i : Int)]) = (match (l.drop i).find? (fun x => x != 0) with | some x => some (.out 1 [iD x]) | none => some (.out 0 [])) := by
    intro m
    induction m with
    | zero =>
      intro i hi
      rw [List.drop_of_length_le (by omega)]
      refine runR_exit ?_
      show firstOf_L2_S0 l.length (l.map iD) _ = _
      unfold firstOf_L2_S0
      rw [pullD_some (i : Int) (by rfl) (by rfl), if_neg (by omega)]
    | succ m ih =>
      intro i hi
      have hlt : i < l.length := by omega
      have hd : l.drop i = at' l i :: l.drop (i + 1) := by
        rw [List.drop_eq_getElem_cons hlt]
        congr 1
        unfold at'
        rw [List.getElem?_eq_getElem hlt]; rfl
      rw [hd, List.find?_cons]
      have hst : firstOf_L2_S l.length (l.map iD) (.next 0 [iD (i : Int)]) = if at' l i ≠ 0 then some (.out 1 [iD (at' l i)]) else some (.next 0 [iD ((i + 1 : Nat) : Int)]) := by
        show firstOf_L2_S0 l.length (l.map iD) _ = _
        unfold firstOf_L2_S0
        rw [pullD_some (i : Int) (by rfl) (by rfl), if_pos (by omega), guardP_pos (by omega), readA hlt, pullD_some (at' l i) (by rfl) (by rfl), natI (by omega)]
      by_cases h0 : at' l i = 0
      · rw [if_neg (by simpa using h0)] at hst
        rw [runR_next hst, ih (i + 1) (by omega), show (at' l i != 0) = false by simp [h0]]
      · rw [if_pos h0] at hst
        rw [runR_exit hst, show (at' l i != 0) = true by simp [h0]]
  have h := key l.length 0 (by omega)
  rw [List.drop_zero, Int.natCast_zero] at h
  cases hf : l.find? (fun x => x != 0) with
  | none =>
    rw [hf] at h
    rw [bindL_some (j := 0) (ds := []) h, if_pos rfl, pullD_some () (by rfl) (by rfl)]
    rfl
  | some x =>
    rw [hf] at h
    rw [bindL_some (j := 1) (ds := [iD x]) h, if_neg (by decide), if_pos rfl, pullD_some x (by rfl) (by rfl)]
    rfl
theorem chkCount_eq {n : Int} (h1 : 1 ≤ n) (h2 : n ≤ 15) : m_51 [iD n, iD 15] = some (iD 0) := by
  rw [m_51_eq]
  unfold chkCount_M
  rw [if_neg (by omega), if_neg (by omega)]
theorem chkWindow_eq (h : Win a b) : m_17 [wnD a b] = some (iD 0) := by
  have hp := h.pos
  have hle := h.le
  have hlen := h.len
  rw [m_17_eq]
  unfold chkWindow_M
  rw [if_neg (by omega), chkCount_eq (by omega) (by omega), pullD_some (0 : Int) (by rfl) (by rfl),
    bindL_some (chk_loop a (by omega) h.ra b.length (b.map iD) (chkWindow_L71_2_S a.length (a.map iD) b.length (b.map iD)) (fun _ => rfl)), if_pos rfl, pullD_some () (by rfl) (by rfl),
    bindL_some (chk_loop b (by omega) h.rb a.length (a.map iD) (chkWindow_L71_2_1_S a.length (a.map iD) b.length (b.map iD)) (fun _ => rfl)), if_pos rfl, pullD_some () (by rfl) (by rfl),
    show [D.list 3 [iD 0, iD 0, iD 0]] = [lD [0, 0, 0]] from rfl, first_eq _ (by decide), pullD_some (0 : Int) (by rfl) (by rfl), if_neg (by decide)]
  have sb : ∀ {l : List Int}, l.length ≤ 1000 → (∀ i, -100 ≤ at' l i ∧ at' l i ≤ 100) → m_52 [lD l] = some (iD (sumTo (at' l) l.length)) := fun {l} hl hr => sum_eq l hl fun k hk => by
    have := sumTo_bound (f := at' l) (B := 100) (k := k) fun i _ => hr i
    omega
  have h3 := sumTo_bound (f := at' a) (B := 100) (k := a.length) fun i _ => h.ra i
  have h4 := h.sum
  rw [show [D.list a.length (a.map iD)] = [lD a] from rfl, sb (by omega) h.ra, pullD_some (sumTo (at' a) a.length) (by rfl) (by rfl), show [D.list b.length (b.map iD)] = [lD b] from rfl, sb (by omega) h.rb, pullD_some (sumTo (at' b) b.length) (by rfl) (by rfl), hlen, h4, if_neg (by decide)]
theorem chkd_eq (h : Win a b) : m_40 [wnD a b] = some (.tup [wnD a b, iD 0]) := by
  rw [m_40_eq]
  unfold chkdWindow_M
  rw [show [D.agg [D.list a.length (a.map iD), D.list b.length (b.map iD)]] = [wnD a b] from rfl, chkWindow_eq h, pullD_some (0 : Int) (by rfl) (by rfl), if_neg (by decide)]
theorem residOf_eq (h : Win a b) : m_10 [wnD a b] = some (.tup [lD (tab (a.length + 1) (rs a b)), iD 0]) := by
  rw [m_10_eq]
  unfold residOf_M
  rw [show [D.agg [D.list a.length (a.map iD), D.list b.length (b.map iD)]] = [wnD a b] from rfl, chkd_eq h, pullD_some (a.length, a.map iD, b.length, b.map iD, 0) (by rfl) (by rfl)]
  dsimp only
  rw [if_neg (by decide), show [D.agg [D.list a.length (a.map iD), D.list b.length (b.map iD)]] = [wnD a b] from rfl, residuals_eq h, pullD_some ((tab (a.length + 1) (rs a b)).length, (tab (a.length + 1) (rs a b)).map iD) (by rfl) (by rfl)]
theorem axialOf_eq (h : Win a b) : m_12 [wnD a b] = some (.tup [.agg [lD (tab a.length (ax a a b)), lD (tab a.length (ax b a b))], iD 0]) := by
  rw [m_12_eq]
  unfold axialOf_M
  rw [show [D.agg [D.list a.length (a.map iD), D.list b.length (b.map iD)]] = [wnD a b] from rfl, chkd_eq h, pullD_some (a.length, a.map iD, b.length, b.map iD, 0) (by rfl) (by rfl)]
  dsimp only
  rw [if_neg (by decide), show [D.agg [D.list a.length (a.map iD), D.list b.length (b.map iD)]] = [wnD a b] from rfl, axial_eq h, pullD_some ((tab a.length (ax a a b)).length, (tab a.length (ax a a b)).map iD, (tab a.length (ax b a b)).length, (tab a.length (ax b a b)).map iD) (by rfl) (by rfl)]
theorem thrustsOf_eq (h : Win a b) : m_13 [wnD a b] = some (.tup [.agg [lD (tab (a.length + 1) (th a a b)), lD (tab (a.length + 1) (th b a b))], iD 0]) := by
  rw [m_13_eq]
  unfold thrustsOf_M
  rw [show [D.agg [D.list a.length (a.map iD), D.list b.length (b.map iD)]] = [wnD a b] from rfl, chkd_eq h, pullD_some (a.length, a.map iD, b.length, b.map iD, 0) (by rfl) (by rfl)]
  dsimp only
  rw [if_neg (by decide), show [D.agg [D.list a.length (a.map iD), D.list b.length (b.map iD)]] = [wnD a b] from rfl, thrusts_eq h, pullD_some ((tab (a.length + 1) (th a a b)).length, (tab (a.length + 1) (th a a b)).map iD, (tab (a.length + 1) (th b a b)).length, (tab (a.length + 1) (th b a b)).map iD) (by rfl) (by rfl)]
theorem radialOf_eq (h : Win a b) : m_14 [wnD a b] = some (.tup [.agg [lD (tab a.length (rx a b)), lD (tab a.length (ry a b))], iD 0]) := by
  rw [m_14_eq]
  unfold radialOf_M
  rw [show [D.agg [D.list a.length (a.map iD), D.list b.length (b.map iD)]] = [wnD a b] from rfl, chkd_eq h, pullD_some (a.length, a.map iD, b.length, b.map iD, 0) (by rfl) (by rfl)]
  dsimp only
  rw [if_neg (by decide), show [D.agg [D.list a.length (a.map iD), D.list b.length (b.map iD)]] = [wnD a b] from rfl, radial_eq h, pullD_some ((tab a.length (rx a b)).length, (tab a.length (rx a b)).map iD, (tab a.length (ry a b)).length, (tab a.length (ry a b)).map iD) (by rfl) (by rfl)]
theorem copyInts_eq (l : List Int) (hl : l.length ≤ 1000) : m_42 [lD l] = some (lD l) := by
  rw [m_42_eq]
  unfold copyInts_M
  rw [guardP_pos ⟨cells_int l, Nat.le_refl _, by omega, by omega⟩, guardP_pos (by simp), guardP_pos ⟨by simp, by omega⟩, Nat.zero_add]
theorem copyW_eq (a b : List Int) (ha : a.length ≤ 1000) (hb : b.length ≤ 1000) : m_11 [wnD a b] = some (wnD a b) := by
  rw [m_11_eq]
  unfold copyW_M
  rw [show [D.list a.length (a.map iD)] = [lD a] from rfl, copyInts_eq a ha, pullD_some (a.length, a.map iD) (by rfl) (by rfl)]
  dsimp only
  rw [show [D.list b.length (b.map iD)] = [lD b] from rfl, copyInts_eq b hb, pullD_some (b.length, b.map iD) (by rfl) (by rfl)]
theorem few_eq (a b : List Int) : m_9 [wnD a b] = some (.one (.bool (decide (a.length ≤ 17 ∧ b.length ≤ 17)))) := by
  rw [m_9_eq]
  unfold few_M
  by_cases h : a.length ≤ 17
  · rw [if_pos (by omega)]
    have : decide ((b.length : Int) ≤ 17) = decide (a.length ≤ 17 ∧ b.length ≤ 17) := by
      rw [decide_eq_decide]; omega
    rw [this]
  · rw [if_neg (by omega)]
    have : decide (a.length ≤ 17 ∧ b.length ≤ 17) = false := by rw [decide_eq_false_iff_not]; omega
    rw [this]
end
end Go.Proofs.Ytbfefnfmdkgfjaa
/- Windows, as arguments. -/
namespace Go.Proofs.Ytbfefnfmdkgfjaa
open Go.Ev Go.RowKit
theorem list_of {α : Type} {es : List CT} {enc : α → List D} (he : ∀ r, okDs es r → ∃ a, r = enc a) {d : D} (h : okD (.sl es) d) : ∃ ys : List α, d = .list ys.length (ys.map enc).flatten ∧ ys.length ≤ maxLen := by
  simp only [okD] at h
  obtain ⟨rows, rfl, hl, hr⟩ := h
  have : ∀ rows : List (List D), (∀ r ∈ rows, okDs es r) → ∃ ys : List α, rows = ys.map enc := by
    intro rows
    induction rows with
    | nil => intro _; exact ⟨[], rfl⟩
    | cons r rs ih =>
      intro h
      obtain ⟨a, rfl⟩ := he r (h r (by simp))
      obtain ⟨ys, rfl⟩ := ih fun q hq => h q (by simp [hq])
      exact ⟨a :: ys, rfl⟩
  obtain ⟨ys, rfl⟩ := this rows hr
  exact ⟨ys, by rw [List.length_map], by rwa [List.length_map] at hl⟩
theorem single_flat {α : Type} (f : α → D) : ∀ l : List α, (l.map fun x => [f x]).flatten = l.map f
  | [] => rfl
  | a :: l => by simp only [List.map_cons, List.flatten_cons, single_flat f l]; rfl
theorem ints_of {d : D} (h : okD (.sl [.int .i64]) d) : ∃ l : List Int, d = lD l := by
  obtain ⟨l, rfl, -⟩ := list_of (enc := fun x : Int => [iD x]) (fun r hr => by
    simp only [okDs, okD] at hr
    obtain ⟨_, _, rfl, ⟨x, rfl, -⟩, rfl⟩ := hr
    exact ⟨x, rfl⟩) h
  exact ⟨l, by rw [single_flat]⟩
theorem win_of {ds : List D} (h : okDs [.sl [.int .i64], .sl [.int .i64]] ds) : ∃ a b : List Int, ds = [lD a, lD b] := by
  rw [okDs] at h
  obtain ⟨d, t, rfl, h1, h2⟩ := h
  rw [okDs] at h2
  obtain ⟨e, t, rfl, h3, h4⟩ := h2
  simp only [okDs] at h4
  subst h4
  obtain ⟨a, rfl⟩ := ints_of h1
  obtain ⟨b, rfl⟩ := ints_of h3
  exact ⟨a, b, rfl⟩
theorem int_of {k : IntKind} {d : D} (h : okD (.int k) d) : ∃ x, d = .one (.int k x) ∧ (Lit.int k x).wf = true := by
  simp only [okD] at h
  exact h
end Go.Proofs.Ytbfefnfmdkgfjaa
/- Windows: what is checked, valid or not. -/
namespace Go.Proofs.Ytbfefnfmdkgfjaa
open Go.Ev Go.RowKit
set_option maxRecDepth 100000
section
variable {a b : List Int}
abbrev inB (l : List Int) : Bool := allIn (-100) 100 l
/-- The error of a window. -/
def winE (a b : List Int) : Int :=
  if a.length ≠ b.length ∨ a.length = 0 then 10 else if a.length > 15 then 8 else if inB a = false then 2 else if inB b = false then 2
  else if sumTo (at' a) a.length + sumTo (at' b) a.length ≠ 0 then 13 else 0
theorem inB_all {l : List Int} (h : inB l = true) : ∀ i, -100 ≤ at' l i ∧ at' l i ≤ 100 := range_all fun j _ hj => allIn_at h hj
theorem winE_zero (h : winE a b = 0) : Win a b := by
  unfold winE at h
  split at h
  · cases h
  rename_i h1
  split at h
  · cases h
  rename_i h2
  split at h
  · cases h
  rename_i h3
  split at h
  · cases h
  rename_i h4
  split at h
  · cases h
  rename_i h5
  exact ⟨by omega, by omega, by omega, inB_all (by simpa using h3), inB_all (by simpa using h4), by omega⟩
theorem winE_ok (e0 : ¬ (a.length ≠ b.length ∨ a.length = 0)) (e1 : ¬ a.length > 15) (ha : inB a = true) (hb : inB b = true) : winE a b = if sumTo (at' a) a.length + sumTo (at' b) a.length ≠ 0 then 13 else 0 := by
  unfold winE
  rw [if_neg e0, if_neg e1, if_neg (show ¬ inB a = false by rw [ha]; decide), if_neg (show ¬ inB b = false by rw [hb]; decide)]
theorem winE_b (e0 : ¬ (a.length ≠ b.length ∨ a.length = 0)) (e1 : ¬ a.length > 15) (ha : inB a = true) (hb : inB b = false) : winE a b = 2 := by
  unfold winE
  rw [if_neg e0, if_neg e1, if_neg (show ¬ inB a = false by rw [ha]; decide), if_pos hb]
theorem winE_a (e0 : ¬ (a.length ≠ b.length ∨ a.length = 0)) (e1 : ¬ a.length > 15) (ha : inB a = false) : winE a b = 2 := by
  unfold winE
  rw [if_neg e0, if_neg e1, if_pos ha]
theorem winE_8 (e0 : ¬ (a.length ≠ b.length ∨ a.length = 0)) (e1 : a.length > 15) : winE a b = 8 := by
  unfold winE
  rw [if_neg e0, if_pos e1]
theorem winE_10 (e0 : a.length ≠ b.length ∨ a.length = 0) : winE a b = 10 := by
  unfold winE
  rw [if_pos e0]
theorem err_scan (l : List Int) (hl : l.length ≤ 1000) (kk : Nat) (cc : List D) (S : Rd → Option Rd) (hS : ∀ ds, S (.next 0 ds) = winErr_L7_S0 l.length (l.map iD) kk cc ds) (m : Nat) : ∀ (i : Nat) (s : Int), i + m = l.length → -(1000000 - 100 * (m : Int)) ≤ s → s ≤ 1000000 - 100 * (m : Int) →
    runR S (.next 0 [iD s, iD (i : Int)]) = if inB (l.drop i) = true then some (.out 0 [iD (s + sumTo (at' l) l.length - sumTo (at' l) i)]) else some (.out 1 [iD 2]) := by
  induction m with
  | zero =>
    intro i s him h1 h2
    have : i = l.length := by omega
    subst this
    rw [List.drop_of_length_le (Nat.le_refl _), if_pos (show inB [] = true from rfl)]
    refine runR_exit ?_
    rw [hS]
    unfold winErr_L7_S0
    rw [pullD_some (s, (l.length : Int)) (by rfl) (by rfl)]
    dsimp only
    rw [if_neg (by omega), show s + sumTo (at' l) l.length - sumTo (at' l) l.length = s by omega]
  | succ m ih =>
    intro i s him h1 h2
    have hi : i < l.length := by omega
    have hd : l.drop i = at' l i :: l.drop (i + 1) := by
      rw [List.drop_eq_getElem_cons hi]
      congr 1
      unfold at'
      rw [List.getElem?_eq_getElem hi]; rfl
    have e : inB (l.drop i) = (decide (-100 ≤ at' l i ∧ at' l i ≤ 100) && inB (l.drop (i + 1))) := by
      rw [hd]; rfl
    have hstep : S (.next 0 [iD s, iD (i : Int)]) = if -100 ≤ at' l i ∧ at' l i ≤ 100 then some (.next 0 [iD (s + at' l i), iD ((i + 1 : Nat) : Int)]) else some (.out 1 [iD 2]) := by
      rw [hS]
      unfold winErr_L7_S0
      rw [pullD_some (s, (i : Int)) (by rfl) (by rfl)]
      dsimp only
      rw [if_pos (by omega), guardP_pos (by omega), readA hi, pullD_some (at' l i) (by rfl) (by rfl), within_eq, pullB, pullD_some (at' l i) (by rfl) (by rfl)]
      by_cases h : -100 ≤ at' l i ∧ at' l i ≤ 100
      · rw [if_pos h, if_neg (by simp [h]), natI (by omega), wrapJ (s + at' l i) (by omega) (by omega)]
      · rw [if_neg h, if_pos (by simpa using h)]
    by_cases h : -100 ≤ at' l i ∧ at' l i ≤ 100
    · rw [if_pos h] at hstep
      rw [runR_next hstep, ih (i + 1) (s + at' l i) (by omega) (by omega) (by omega), e, decide_eq_true h, Bool.true_and]
      have : sumTo (at' l) (i + 1) = sumTo (at' l) i + at' l i := rfl
      rw [show s + at' l i + sumTo (at' l) l.length - sumTo (at' l) (i + 1) = s + sumTo (at' l) l.length - sumTo (at' l) i by omega]
    · rw [if_neg h] at hstep
      rw [e, decide_eq_false h, Bool.false_and, if_neg (by decide)]
      exact runR_exit hstep
theorem err_scan0 (l : List Int) (hl : l.length ≤ 1000) (kk : Nat) (cc : List D) (S : Rd → Option Rd) (hS : ∀ ds, S (.next 0 ds) = winErr_L7_S0 l.length (l.map iD) kk cc ds) (s : Int) (h1 : -100000 ≤ s) (h2 : s ≤ 100000) :
    runR S (.next 0 [iD s, iD 0]) = if inB l = true then some (.out 0 [iD (s + sumTo (at' l) l.length)]) else some (.out 1 [iD 2]) := by
  have h := err_scan l hl kk cc S hS l.length 0 s (by omega) (by omega) (by omega)
  simp only [Int.natCast_zero, sumTo, Int.sub_zero, List.drop_zero] at h
  exact h
theorem winErr_all (a b : List Int) : m_16 [wnD a b] = some (iD (winE a b)) := by
  rw [m_16_eq]
  unfold winErr_M
  by_cases h0 : (a.length : Int) = 0
  · rw [if_pos h0, winE_10 (.inr (by omega))]
  rw [if_neg h0]
  by_cases h1 : (b.length : Int) ≠ (a.length : Int)
  · rw [if_pos h1, winE_10 (.inl (by omega))]
  rw [if_neg h1]
  have e0 : ¬ (a.length ≠ b.length ∨ a.length = 0) := by omega
  by_cases h2 : (a.length : Int) > 15
  · rw [if_pos h2, winE_8 e0 (by omega)]
  rw [if_neg h2]
  have e1 : ¬ a.length > 15 := by omega
  have h3 := err_scan0 a (by omega) b.length (b.map iD) (winErr_L7_S a.length (a.map iD) b.length (b.map iD)) (fun _ => rfl) 0 (by omega) (by omega)
  cases ha : inB a with
  | false =>
    rw [ha, if_neg (by decide)] at h3
    rw [bindL_some h3, if_neg (by decide), if_pos rfl, pullD_some (2 : Int) (by rfl) (by rfl)] 
    rw [winE_a e0 e1 ha]
  | true =>
    rw [ha, if_pos rfl] at h3
    rw [bindL_some h3, if_pos rfl, Int.zero_add, pullD_some (sumTo (at' a) a.length) (by rfl) (by rfl)]
    have hra := inB_all ha
    have hs := sumTo_bound (f := at' a) (B := 100) (k := a.length) fun i _ => hra i
    have h5 := err_scan0 b (by omega) a.length (a.map iD) (winErr_L13_S a.length (a.map iD) b.length (b.map iD) (sumTo (at' a) a.length)) (fun _ => rfl) (sumTo (at' a) a.length) (by omega) (by omega)
    have e2 : b.length = a.length := by omega
    cases hb : inB b with
    | false =>
      rw [hb, if_neg (by decide)] at h5
      rw [bindL_some h5, if_neg (by decide), if_pos rfl, pullD_some (2 : Int) (by rfl) (by rfl)]
      rw [winE_b e0 e1 ha hb]
    | true =>
      rw [hb, if_pos rfl, e2] at h5
      rw [e2, bindL_some h5, if_pos rfl, pullD_some (sumTo (at' a) a.length + sumTo (at' b) a.length) (by rfl) (by rfl)]
      rw [winE_ok e0 e1 ha hb]
      by_cases h7 : sumTo (at' a) a.length + sumTo (at' b) a.length ≠ 0
      · rw [if_pos h7, if_pos h7]
      · rw [if_neg h7, if_neg h7]
theorem chk_scan (l : List Int) (hl : l.length ≤ 1000) (kk : Nat) (cc : List D) (S : Rd → Option Rd) (hS : ∀ ds, S (.next 0 ds) = chkWindow_L71_2_S0 l.length (l.map iD) kk cc ds) : runR S (.next 0 [iD 0]) = if inB l = true then some (.out 0 []) else some (.out 1 [iD 2]) := by
  refine scanIn l (-100) 100 S _ (fun _ _ h => by cases h) (fun i hi => ?_) ?_
  · rw [hS]
    unfold chkWindow_L71_2_S0
    rw [pullD_some (i : Int) (by rfl) (by rfl), if_pos (by omega), guardP_pos (by omega), readA hi, pullD_some (at' l i) (by rfl) (by rfl), natI (by omega)]
    by_cases h : -100 ≤ at' l i ∧ at' l i ≤ 100
    · rw [if_pos h, if_neg (by omega), if_neg (by omega)]
    · rw [if_neg h]
      by_cases h1 : at' l i < -100
      · rw [if_pos h1]
      · rw [if_neg h1, if_pos (by omega)]
  · rw [hS]
    unfold chkWindow_L71_2_S0
    rw [pullD_some (l.length : Int) (by rfl) (by rfl), if_neg (by omega)]
theorem count_all (n : Int) : ∃ r, m_51 [iD n, iD 15] = some (iD r) ∧ r = if n < 1 then 10 else if n > 15 then 8 else 0 := by
  rw [m_51_eq]
  unfold chkCount_M
  by_cases h : n < 1
  · rw [if_pos h, if_pos h]; exact ⟨_, rfl, rfl⟩
  · rw [if_neg h, if_neg h]
    by_cases h2 : n > 15
    · rw [if_pos h2, if_pos h2]; exact ⟨_, rfl, rfl⟩
    · rw [if_neg h2, if_neg h2]; exact ⟨_, rfl, rfl⟩
theorem sb {l : List Int} (hl : l.length ≤ 1000) (hr : ∀ i, -100 ≤ at' l i ∧ at' l i ≤ 100) : m_52 [.list l.length (l.map iD)] = some (iD (sumTo (at' l) l.length)) := sum_eq l hl fun k hk => by
  have := sumTo_bound (f := at' l) (B := 100) (k := k) fun i _ => hr i
  omega
theorem first3 (x y z : Int) : m_47 [.list 3 [iD x, iD y, iD z]] = some (iD (if x ≠ 0 then x else if y ≠ 0 then y else z)) := by
  rw [show [D.list 3 [iD x, iD y, iD z]] = [lD [x, y, z]] from rfl, first_eq _ (by simp)]
  congr 2
  by_cases h1 : x ≠ 0
  · rw [if_pos h1]; simp [h1]
  · have h1 : x = 0 := by omega
    subst h1
    by_cases h2 : y ≠ 0
    · rw [if_neg (by decide), if_pos h2]; simp [h2]
    · have h2 : y = 0 := by omega
      subst h2
      by_cases h3 : z ≠ 0
      · simp [h3]
      · have h3 : z = 0 := by omega
        subst h3; rfl
theorem first2 (x y : Int) : m_47 [.list 2 [iD x, iD y]] = some (iD (if x ≠ 0 then x else y)) := by
  rw [show [D.list 2 [iD x, iD y]] = [lD [x, y]] from rfl, first_eq _ (by simp)]
  congr 2
  by_cases h1 : x ≠ 0
  · rw [if_pos h1]; simp [h1]
  · have h1 : x = 0 := by omega
    subst h1
    by_cases h2 : y ≠ 0
    · simp [h2]
    · have h2 : y = 0 := by omega
      subst h2; rfl
theorem chkWindow_all (a b : List Int) (hla : a.length ≤ 1000) (hlb : b.length ≤ 1000) : m_17 [wnD a b] = some (iD (winE a b)) := by
  rw [m_17_eq]
  unfold chkWindow_M
  by_cases h0 : (a.length : Int) ≠ (b.length : Int)
  · rw [if_pos h0, winE_10 (.inl (by omega))]
  rw [if_neg h0]
  obtain ⟨r, hr, hr2⟩ := count_all (a.length : Int)
  rw [hr, pullD_some r (by rfl) (by rfl)]
  have h1 := chk_scan a hla b.length (b.map iD) (chkWindow_L71_2_S a.length (a.map iD) b.length (b.map iD)) (fun _ => rfl)
  have h2 := chk_scan b hlb a.length (a.map iD) (chkWindow_L71_2_1_S a.length (a.map iD) b.length (b.map iD)) (fun _ => rfl)
  have hlen : b.length = a.length := by omega
  -- what comes of the three checks
  have hE : ∀ x y : Int, x = (if inB a = true then 0 else 2) → y = (if inB b = true then 0 else 2) → (if r ≠ 0 then r else if x ≠ 0 then x else y) ≠ 0 → winE a b = (if r ≠ 0 then r else if x ≠ 0 then x else y) := by
    intro x y hx hy hne
    by_cases c1 : (a.length : Int) < 1
    · rw [if_pos c1] at hr2
      rw [winE_10 (.inr (by omega)), hr2]; rfl
    · rw [if_neg c1] at hr2
      have e0 : ¬ (a.length ≠ b.length ∨ a.length = 0) := by omega
      by_cases c2 : (a.length : Int) > 15
      · rw [if_pos c2] at hr2
        rw [winE_8 e0 (by omega), hr2]; rfl
      · rw [if_neg c2] at hr2
        have e1 : ¬ a.length > 15 := by omega
        subst hr2
        cases ha : inB a with
        | false => rw [winE_a e0 e1 ha, hx, ha]; rfl
        | true =>
          cases hb : inB b with
          | false => rw [winE_b e0 e1 ha hb, hx, hy, ha, hb]; rfl
          | true => rw [hx, hy, ha, hb] at hne; exact absurd rfl hne
  cases ha : inB a with
  | false =>
    rw [ha, if_neg (by decide)] at h1
    rw [bindL_some h1, if_neg (by decide), if_pos rfl, pullD_some (2 : Int) (by rfl) (by rfl)]
    cases hb : inB b with
    | false =>
      rw [hb, if_neg (by decide)] at h2
      have := hE 2 2 (by rw [ha]; rfl) (by rw [hb]; rfl) (by split <;> simp_all)
      rw [bindL_some h2, if_neg (by decide), if_pos rfl, pullD_some (2 : Int) (by rfl) (by rfl), first3, pullI, if_pos (by split <;> simp_all), this]
    | true =>
      rw [hb, if_pos rfl] at h2
      have := hE 2 0 (by rw [ha]; rfl) (by rw [hb]; rfl) (by split <;> simp_all)
      rw [bindL_some h2, if_pos rfl, pullD_some () (by rfl) (by rfl), first3, pullI, if_pos (by split <;> simp_all), this]
  | true =>
    rw [ha, if_pos rfl] at h1
    rw [bindL_some h1, if_pos rfl, pullD_some () (by rfl) (by rfl)]
    cases hb : inB b with
    | false =>
      rw [hb, if_neg (by decide)] at h2
      have := hE 0 2 (by rw [ha]; rfl) (by rw [hb]; rfl) (by split <;> simp_all)
      rw [bindL_some h2, if_neg (by decide), if_pos rfl, pullD_some (2 : Int) (by rfl) (by rfl), first3, pullI, if_pos (by split <;> simp_all), this]
    | true =>
      rw [hb, if_pos rfl] at h2
      rw [bindL_some h2, if_pos rfl, pullD_some () (by rfl) (by rfl), first3, pullI]
      by_cases hr0 : r ≠ 0
      · have := hE 0 0 (by rw [ha]; rfl) (by rw [hb]; rfl) (by rw [if_pos hr0]; exact hr0)
        rw [if_pos (by rw [if_pos hr0]; exact hr0), this]
      · rw [if_neg (by rw [if_neg hr0]; decide), sb hla (inB_all ha), pullI, sb hlb (inB_all hb), pullI]
        have c1 : ¬ (a.length : Int) < 1 := fun h => by rw [if_pos h] at hr2; exact hr0 (by rw [hr2]; decide)
        rw [if_neg c1] at hr2
        have c2 : ¬ (a.length : Int) > 15 := fun h => by rw [if_pos h] at hr2; exact hr0 (by rw [hr2]; decide)
        rw [winE_ok (by omega) (by omega) ha hb, hlen]
        have q1 := sumTo_bound (f := at' a) (B := 100) (k := a.length) fun i _ => inB_all ha i
        have q2 := sumTo_bound (f := at' b) (B := 100) (k := a.length) fun i _ => inB_all hb i
        rw [wrapJ (sumTo (at' a) a.length + sumTo (at' b) a.length) (by omega) (by omega)]
        by_cases h7 : sumTo (at' a) a.length + sumTo (at' b) a.length ≠ 0
        · rw [if_pos h7, if_pos h7]
        · rw [if_neg h7, if_neg h7]
/-! What comes back from a window that is refused. -/
abbrev noF : D := .agg [.list 0 [], .list 0 []]
theorem chkd_bad (hla : a.length ≤ 1000) (hlb : b.length ≤ 1000) (h : winE a b ≠ 0) : m_40 [wnD a b] = some (.tup [noF, iD (winE a b)]) := by
  rw [m_40_eq]
  unfold chkdWindow_M
  rw [show [D.agg [D.list a.length (a.map iD), D.list b.length (b.map iD)]] = [wnD a b] from rfl, chkWindow_all a b hla hlb, pullI, if_pos h]
theorem residOf_bad (hla : a.length ≤ 1000) (hlb : b.length ≤ 1000) (h : winE a b ≠ 0) : m_10 [wnD a b] = some (.tup [.list 0 [], iD (winE a b)]) := by
  rw [m_10_eq]
  unfold residOf_M
  rw [show [D.agg [D.list a.length (a.map iD), D.list b.length (b.map iD)]] = [wnD a b] from rfl, chkd_bad hla hlb h, pullD_some (0, [], 0, [], winE a b) (by rfl) (by rfl)]
  dsimp only
  rw [if_pos h]
theorem axialOf_bad (hla : a.length ≤ 1000) (hlb : b.length ≤ 1000) (h : winE a b ≠ 0) : m_12 [wnD a b] = some (.tup [noF, iD (winE a b)]) := by
  rw [m_12_eq]
  unfold axialOf_M
  rw [show [D.agg [D.list a.length (a.map iD), D.list b.length (b.map iD)]] = [wnD a b] from rfl, chkd_bad hla hlb h, pullD_some (0, [], 0, [], winE a b) (by rfl) (by rfl)]
  dsimp only
  rw [if_pos h]
theorem thrustsOf_bad (hla : a.length ≤ 1000) (hlb : b.length ≤ 1000) (h : winE a b ≠ 0) : m_13 [wnD a b] = some (.tup [noF, iD (winE a b)]) := by
  rw [m_13_eq]
  unfold thrustsOf_M
  rw [show [D.agg [D.list a.length (a.map iD), D.list b.length (b.map iD)]] = [wnD a b] from rfl, chkd_bad hla hlb h, pullD_some (0, [], 0, [], winE a b) (by rfl) (by rfl)]
  dsimp only
  rw [if_pos h]
theorem radialOf_bad (hla : a.length ≤ 1000) (hlb : b.length ≤ 1000) (h : winE a b ≠ 0) : m_14 [wnD a b] = some (.tup [noF, iD (winE a b)]) := by
  rw [m_14_eq]
  unfold radialOf_M
  rw [show [D.agg [D.list a.length (a.map iD), D.list b.length (b.map iD)]] = [wnD a b] from rfl, chkd_bad hla hlb h, pullD_some (0, [], 0, [], winE a b) (by rfl) (by rfl)]
  dsimp only
  rw [if_pos h]
theorem kind_all (n : Int) : m_48 [iD n] = some (iD (if 0 ≤ n ∧ n ≤ 3 then 0 else 15)) := by
  rw [m_48_eq]
  unfold chkKind_M
  by_cases h : n < 0
  · rw [if_pos h, if_neg (by omega)]
  · rw [if_neg h]
    by_cases h2 : n ≥ 4
    · rw [if_pos h2, if_neg (by omega)]
    · rw [if_neg h2, if_pos (by omega)]
theorem unitOf_bad (hla : a.length ≤ 1000) (hlb : b.length ≤ 1000) (h : winE a b ≠ 0) (n : Int) : m_15 [wnD a b, iD n] = some (.tup [iD 0, iD (winE a b)]) := by
  rw [m_15_eq]
  unfold unitOf_M
  rw [show [D.agg [D.list a.length (a.map iD), D.list b.length (b.map iD)]] = [wnD a b] from rfl, chkd_bad hla hlb h, pullD_some (0, [], 0, [], winE a b) (by rfl) (by rfl)]
  dsimp only
  rw [kind_all, pullI, first2, if_pos h, pullI, if_pos h]
theorem none_eq : m_18 [noF] = some (.one (.bool true)) := by
  rw [m_18_eq]
  rfl
end
end Go.Proofs.Ytbfefnfmdkgfjaa
namespace Go.Proofs.Ytbfefnfmdkgfjaa
open Go.Ev Go.RowKit
set_option maxRecDepth 100000
set_option maxHeartbeats 8000000
set_option linter.all false
noncomputable section
def residR_x3_0 : LExit := ⟨some 0, [.grow 3 1], (4 :: (List.range' 6 26))⟩
def residR_sp : List LSpec := [⟨20, 3, [residR_x3_0]⟩]
def residR_L3_E (ka : Nat) (ca : List D) (kb : Nat) (cb : List D)  : List AV × AHeap := ([.agg [.dsl 0, .dsl 1], .ptr 2 0, .pure (.slice none 0 0), .bslx 4 0 1 0, .pure (.int .i64 (0 : Int)), .bslx 4 0 1 0, .pure (.tuple #[]), .pure (.tuple #[]), .pure (.tuple #[]), .pure (.tuple #[]), .pure (.tuple #[]), .pure (.tuple #[]), .pure (.tuple #[]), .pure (.tuple #[]), .pure (.tuple #[]), .pure (.tuple #[]), .pure (.tuple #[]), .pure (.tuple #[]), .pure (.tuple #[]), .pure (.tuple #[]), .pure (.tuple #[]), .pure (.tuple #[]), .pure (.tuple #[]), .pure (.tuple #[]), .pure (.tuple #[]), .pure (.tuple #[]), .pure (.tuple #[]), .pure (.tuple #[]), .pure (.tuple #[]), .pure (.tuple #[]), .pure (.tuple #[]), .pure (.tuple #[]), .pure (.tuple #[])], [(4, { cells := [], opn := some 1, kind := .big [iD (0 : Int)] }), (2, { cells := [.dsl 0, .dsl 1], opn := none, kind := .cells }), (1, { cells := [], opn := none, kind := .deep kb cb }), (0, { cells := [], opn := none, kind := .deep ka ca })])
def residR_L3_A : LoopAt := ⟨20, loopAt Try.prog 20 0, 5, 33, 4, noFrame⟩
theorem residR_L3_ok : (residR_L3_A).OK := ⟨by show 5 ≤ 33; decide, by show 4 ≤ 5; decide, by kernel_rfl, rfl⟩
def residR_L3_gs (ka : Nat) (ca : List D) (kb : Nat) (cb : List D)  : Go.Ev.Rd → Option GS
  | .next 0 ds => ghost [.grow 3 1, .val 4] (List.range' 6 26) (residR_L3_E ka ca kb cb).1 (residR_L3_E ka ca kb cb).2 5 ds
  | .out 0 ds => ghost residR_x3_0.live residR_x3_0.junk (residR_L3_E ka ca kb cb).1 (residR_L3_E ka ca kb cb).2 5 ds
  | _ => none
def residR_L3_ex : Nat → Option Nat
  | 0 => residR_x3_0.ex
  | _ => none
def residR_L3_ax : Go.Ev.Rd → AX
  | .next _ _ => .normal
  | .out j _ => axOf (residR_L3_ex j)
def residR_L3_S0 (ka : Nat) (ca : List D) (kb : Nat) (cb : List D)  (ds : List D) : Option Go.Ev.Rd := pullD (α := Nat × (List D) × Int) (some (.tup ds)) (fun d => ((D.ln (D.at d 0)), (D.lc (D.at d 0)), (D.vi (D.at d 1)))) (fun (s3n, s3c, s4) => .tup [.list s3n s3c, iD s4]) fun (s3n, s3c, s4) => ((if s4 < (ka : Int) then guardP ((0 : Int) ≤ s4 ∧ s4.toNat < s3n) (pullD (α := Int) (readD s3c (0 + s4.toNat * 1) 1 false) (fun d => ((D.vi d))) (fun v0 => iD v0) fun v0 => (guardP ((0 : Int) ≤ s4 ∧ s4.toNat < ka) (pullD (α := Int) (readD ca (s4.toNat * 1) 1 false) (fun d => ((D.vi d))) (fun v1 => iD v1) fun v1 => (guardP ((0 : Int) ≤ s4 ∧ s4.toNat < kb) (pullD (α := Int) (readD cb (s4.toNat * 1) 1 false) (fun d => ((D.vi d))) (fun v2 => iD v2) fun v2 => (guardP ((∀ (u : D), u ∈ [dCell (.int .i64 (IntKind.i64.wrap (IntKind.i64.wrap (v0 + v1) + v2)))] → cellD u) ∧ s3n * 1 ≤ s3c.length ∧ (s3n + (0 + 1)) * 8 ≤ 140737488355328 ∧ s3n + (0 + 1) ≤ 4611686018427387904) (some (.next 0 [.list (s3n + (0 + 1)) (List.append (List.take (s3n * 1) s3c) [dCell (.int .i64 (IntKind.i64.wrap (IntKind.i64.wrap (v0 + v1) + v2)))]), iD (IntKind.i64.wrap (s4 + (1 : Int)))])))))))) else some (.out 0 [.list s3n s3c])))
def residR_L3_S (ka : Nat) (ca : List D) (kb : Nat) (cb : List D)  : Go.Ev.Rd → Option Go.Ev.Rd
  | .next 0 ds => residR_L3_S0 ka ca kb cb ds
  | _ => none
theorem residR_L3_S_ok (ka : Nat) (ca : List D) (kb : Nat) (cb : List D)  : ∀ s_ t_, residR_L3_S ka ca kb cb s_ = some t_ → Step (ctx [20] residR_sp) Tabs residR_L3_A (stateOf (residR_L3_gs ka ca kb cb s_)) (stateOf (residR_L3_gs ka ca kb cb t_)) (residR_L3_ax t_) ∧ EndOK residR_L3_A.nx residR_L3_A.low (residR_L3_gs ka ca kb cb) t_
  | .next 0 ds, t_, h => by
    have h_ : residR_L3_S0 ka ca kb cb ds = some t_ := h
    clear h
    unfold residR_L3_S0 at h_
    obtain ⟨⟨s3n, s3c, s4⟩, e0, h0⟩ := pullD_elim h_
    clear h_
    obtain rfl := tup_inj e0
    by_cases b1_ : s4 < (ka : Int)
    · have h2_ := (if_pos b1_).symm.trans h0
      obtain ⟨f3_, h4_⟩ := guardP_elim h2_
      obtain ⟨v0, f5_, h6_⟩ := pullD_elim h4_
      replace f5_ := readD_elim f5_
      obtain ⟨f7_, h8_⟩ := guardP_elim h6_
      obtain ⟨v1, f9_, h10_⟩ := pullD_elim h8_
      replace f9_ := readD_elim f9_
      obtain ⟨f11_, h12_⟩ := guardP_elim h10_
      obtain ⟨v2, f13_, h14_⟩ := pullD_elim h12_
      replace f13_ := readD_elim f13_
      obtain ⟨f15_, h16_⟩ := guardP_elim h14_
      obtain rfl := Option.some.inj h16_
      exact ⟨step_pc 3000 (bT 1 []) [iD v0, iD v1, iD v2] [c_d b1_, c_f f3_, c_f f5_, c_f f7_, c_f f9_, c_f f11_, c_f f13_, c_f f15_] [] _ rfl (by kernel_rfl) (by kernel_rfl) (by kernel_rfl) (by kernel_rfl) (by kernel_rfl) (by kernel_rfl), trivial⟩
    have h2_ := (if_neg b1_).symm.trans h0
    obtain rfl := Option.some.inj h2_
    exact ⟨step_pc 3000 (bF 1 []) [] [c_n b1_] [] _ rfl (by kernel_rfl) (by kernel_rfl) (by kernel_rfl) (by kernel_rfl) (by kernel_rfl) (by kernel_rfl), by kernel_rfl, by kernel_rfl⟩
  | .next (_ + 1) _, _, h => by cases h
  | .out _ _, _, h => by cases h
theorem residR_L3_go (ka : Nat) (ca : List D) (kb : Nat) (cb : List D)  {q : Nat} {ds : List D} {j : Nat} {es : List D} (h : runR (residR_L3_S ka ca kb cb) (.next q ds) = some (.out j es)) : Runs (ctx [20] residR_sp) Tabs residR_L3_A (stateOf (residR_L3_gs ka ca kb cb (.next q ds))) (stateOf (residR_L3_gs ka ca kb cb (.out j es))) (residR_L3_ax (.out j es)) ∧ (nxtOf (residR_L3_gs ka ca kb cb (.out j es)), lowGS (residR_L3_gs ka ca kb cb (.out j es))) = (residR_L3_A.nx, residR_L3_A.low) :=
  runs_of' (good true _ _) residR_L3_ok (ax := residR_L3_ax) (fun _ _ => rfl) (fun _ _ => axOf_end _) (residR_L3_S_ok ka ca kb cb) h
theorem residR_L3_in0 (ka : Nat) (ca : List D) (kb : Nat) (cb : List D)  {es : List D} (h : runR (residR_L3_S ka ca kb cb) (.next 0 [.list (1) ([iD (0 : Int)]), iD ((0 : Int))]) = some (.out 0 es)) : LoopC (loopAt Try.prog 20 0) (residR_L3_E ka ca kb cb) 5 noFrame residR_x3_0 es :=
  have r := residR_L3_go ka ca kb cb h
  loopin_as rfl (loop_in (l := residR_L3_A) (E := (residR_L3_E ka ca kb cb)) (S := stateOf (residR_L3_gs ka ca kb cb (.next 0 [.list (1) ([iD (0 : Int)]), iD ((0 : Int))]))) (ns := nsOf (residR_L3_gs ka ca kb cb (.next 0 [.list (1) ([iD (0 : Int)]), iD ((0 : Int))]))) residR_L3_ok r.1 r.2 (by kernel_rfl) (by kernel_rfl) (by kernel_rfl) (by kernel_rfl))
def residR_M (ka : Nat) (ca : List D) (kb : Nat) (cb : List D) : Option D := bindL (runR (residR_L3_S ka ca kb cb) (.next 0 [.list (1) ([iD (0 : Int)]), iD ((0 : Int))])) fun j ds => (if j = 0 then pullD (α := Nat × (List D)) (some (.tup ds)) (fun d => ((D.ln (D.at d 0)), (D.lc (D.at d 0)))) (fun (k0, c1) => .tup [.list k0 c1]) fun (k0, c1) => (guardP ((0 + k0) * 1 ≤ c1.length ∧ 0 < 1) (some (.list k0 c1))) else none)
theorem residR_M_ok (ka : Nat) (ca : List D) (kb : Nat) (cb : List D) {r : D} (h : residR_M ka ca kb cb = some r) : Con 20 [.agg [.list ka ca, .list kb cb]] r := by
  unfold residR_M at h
  obtain ⟨j, ds, e1_, h2_⟩ := bindL_elim h
  by_cases j3_ : j = 0
  · have h6_ := (if_pos j3_).symm.trans h2_
    clear h2_
    subst j3_
    obtain ⟨⟨k0, c1⟩, e4_, h7_⟩ := pullD_elim h6_
    clear h6_
    obtain rfl := tup_inj e4_
    have k5_ := residR_L3_in0 ka ca kb cb e1_
    obtain ⟨f8_, h9_⟩ := guardP_elim h7_
    obtain rfl := Option.some.inj h9_
    exact con_pc (op := true) (I := [20]) (sp := residR_sp) 3000 [] [.tup [iD (Int.ofNat 0), .list k0 c1]] [c_f f8_] [k_l k5_ [] [.tup [iD (Int.ofNat 0), .list k0 c1]] []] (by kernel_rfl)
  have h10_ := (if_neg j3_).symm.trans h2_
  clear h2_
  cases h10_
def m_20 (ds : List D) : Option D := pullD (α := Nat × (List D) × Nat × (List D)) (some (.tup ds)) (fun d => ((D.ln (D.at (D.at d 0) 0)), (D.lc (D.at (D.at d 0) 0)), (D.ln (D.at (D.at d 0) 1)), (D.lc (D.at (D.at d 0) 1)))) (fun (ka, ca, kb, cb) => .tup [.agg [.list ka ca, .list kb cb]]) fun (ka, ca, kb, cb) => residR_M ka ca kb cb
theorem m_20_ok {ds : List D} {r : D} (h : m_20 ds = some r) : Con 20 ds r := by
  unfold m_20 at h
  obtain ⟨⟨ka, ca, kb, cb⟩, e0, h0⟩ := pullD_elim h
  obtain rfl := tup_inj e0
  exact residR_M_ok ka ca kb cb h0
theorem m_20_eq (ka : Nat) (ca : List D) (kb : Nat) (cb : List D) : m_20 [.agg [.list ka ca, .list kb cb]] = residR_M ka ca kb cb := pullD_some (ka, ca, kb, cb) rfl rfl
def axialR1_x4_0 : LExit := ⟨some 0, [.grow 6 1], (7 :: (List.range' 10 24))⟩
def axialR1_x4_1 : LExit := ⟨some 0, [.nil 6], (7 :: (List.range' 10 24))⟩
def axialR1_sp : List LSpec := [⟨53, 4, [axialR1_x4_0, axialR1_x4_1]⟩]
def axialR1_L4_E (ka : Nat) (ca : List D) (kb : Nat) (cb : List D) (kc : Nat) (cc : List D) (x0 : Nat) (x1 : List D) : List AV × AHeap := ([.agg [.dsl 0, .dsl 1], .dsl 2, .ptr 3 0, .pure (.tuple #[]), .pure (.slice none 0 0), .dsl 4, .pure (.slice none 0 0), .pure (.int .i64 (0 : Int)), .agg [.dsl 0, .dsl 1], .dsl 4, .pure (.tuple #[]), .pure (.tuple #[]), .pure (.tuple #[]), .pure (.tuple #[]), .pure (.tuple #[]), .pure (.tuple #[]), .pure (.tuple #[]), .pure (.tuple #[]), .pure (.tuple #[]), .pure (.tuple #[]), .pure (.tuple #[]), .pure (.tuple #[]), .pure (.tuple #[]), .pure (.tuple #[]), .pure (.tuple #[]), .pure (.tuple #[]), .pure (.tuple #[]), .pure (.tuple #[]), .pure (.tuple #[]), .pure (.tuple #[]), .pure (.tuple #[]), .pure (.tuple #[]), .pure (.tuple #[]), .pure (.tuple #[]), .pure (.tuple #[])], [(4, { cells := [], opn := none, kind := .deep x0 x1 }), (3, { cells := [.dsl 0, .dsl 1], opn := none, kind := .cells }), (2, { cells := [], opn := none, kind := .deep kc cc }), (1, { cells := [], opn := none, kind := .deep kb cb }), (0, { cells := [], opn := none, kind := .deep ka ca })])
def axialR1_L4_A : LoopAt := ⟨53, loopAt Try.prog 53 0, 5, 31, 5, noFrame⟩
theorem axialR1_L4_ok : (axialR1_L4_A).OK := ⟨by show 5 ≤ 31; decide, by show 5 ≤ 5; decide, by kernel_rfl, rfl⟩
def axialR1_L4_gs (ka : Nat) (ca : List D) (kb : Nat) (cb : List D) (kc : Nat) (cc : List D) (x0 : Nat) (x1 : List D) : Go.Ev.Rd → Option GS
  | .next 0 ds => ghost [.grow 6 1, .val 7] (List.range' 10 24) (axialR1_L4_E ka ca kb cb kc cc x0 x1).1 (axialR1_L4_E ka ca kb cb kc cc x0 x1).2 5 ds
  | .next 1 ds => ghost [.nil 6, .val 7] (List.range' 10 24) (axialR1_L4_E ka ca kb cb kc cc x0 x1).1 (axialR1_L4_E ka ca kb cb kc cc x0 x1).2 5 ds
  | .out 0 ds => ghost axialR1_x4_0.live axialR1_x4_0.junk (axialR1_L4_E ka ca kb cb kc cc x0 x1).1 (axialR1_L4_E ka ca kb cb kc cc x0 x1).2 5 ds
  | .out 1 ds => ghost axialR1_x4_1.live axialR1_x4_1.junk (axialR1_L4_E ka ca kb cb kc cc x0 x1).1 (axialR1_L4_E ka ca kb cb kc cc x0 x1).2 5 ds
  | _ => none
def axialR1_L4_ex : Nat → Option Nat
  | 0 => axialR1_x4_0.ex
  | 1 => axialR1_x4_1.ex
  | _ => none
def axialR1_L4_ax : Go.Ev.Rd → AX
  | .next _ _ => .normal
  | .out j _ => axOf (axialR1_L4_ex j)
def axialR1_L4_S0 (ka : Nat) (ca : List D) (kb : Nat) (cb : List D) (kc : Nat) (cc : List D) (x0 : Nat) (x1 : List D) (ds : List D) : Option Go.Ev.Rd := pullD (α := Nat × (List D) × Int) (some (.tup ds)) (fun d => ((D.ln (D.at d 0)), (D.lc (D.at d 0)), (D.vi (D.at d 1)))) (fun (s6n, s6c, s7) => .tup [.list s6n s6c, iD s7]) fun (s6n, s6c, s7) => ((if s7 < (kc : Int) then guardP ((0 : Int) ≤ s7 ∧ s7.toNat < kc) (pullD (α := Int) (readD cc (s7.toNat * 1) 1 false) (fun d => ((D.vi d))) (fun v0 => iD v0) fun v0 => (guardP ((0 : Int) ≤ s7 ∧ s7.toNat < x0) (pullD (α := Int) (readD x1 (s7.toNat * 1) 1 false) (fun d => ((D.vi d))) (fun v1 => iD v1) fun v1 => (guardP ((0 : Int) ≤ IntKind.i64.wrap (s7 + (1 : Int)) ∧ (IntKind.i64.wrap (s7 + (1 : Int))).toNat < x0) (pullD (α := Int) (readD x1 ((IntKind.i64.wrap (s7 + (1 : Int))).toNat * 1) 1 false) (fun d => ((D.vi d))) (fun v2 => iD v2) fun v2 => (guardP ((∀ (u : D), u ∈ [dCell (.int .i64 (IntKind.i64.wrap (v0 * IntKind.i64.wrap (v1 + v2))))] → cellD u) ∧ s6n * 1 ≤ s6c.length ∧ (s6n + (0 + 1)) * 8 ≤ 140737488355328 ∧ s6n + (0 + 1) ≤ 4611686018427387904) (some (.next 0 [.list (s6n + (0 + 1)) (List.append (List.take (s6n * 1) s6c) [dCell (.int .i64 (IntKind.i64.wrap (v0 * IntKind.i64.wrap (v1 + v2))))]), iD (IntKind.i64.wrap (s7 + (1 : Int)))])))))))) else some (.out 0 [.list s6n s6c])))
def axialR1_L4_S1 (ka : Nat) (ca : List D) (kb : Nat) (cb : List D) (kc : Nat) (cc : List D) (x0 : Nat) (x1 : List D) (ds : List D) : Option Go.Ev.Rd := pullD (α := Int) (some (.tup ds)) (fun d => ((D.vi (D.at d 1)))) (fun s7 => .tup [.one (.tuple #[]), iD s7]) fun s7 => ((if s7 < (kc : Int) then guardP ((0 : Int) ≤ s7 ∧ s7.toNat < kc) (pullD (α := Int) (readD cc (s7.toNat * 1) 1 false) (fun d => ((D.vi d))) (fun v0 => iD v0) fun v0 => (guardP ((0 : Int) ≤ s7 ∧ s7.toNat < x0) (pullD (α := Int) (readD x1 (s7.toNat * 1) 1 false) (fun d => ((D.vi d))) (fun v1 => iD v1) fun v1 => (guardP ((0 : Int) ≤ IntKind.i64.wrap (s7 + (1 : Int)) ∧ (IntKind.i64.wrap (s7 + (1 : Int))).toNat < x0) (pullD (α := Int) (readD x1 ((IntKind.i64.wrap (s7 + (1 : Int))).toNat * 1) 1 false) (fun d => ((D.vi d))) (fun v2 => iD v2) fun v2 => (some (.next 0 [.list 1 [iD (IntKind.i64.wrap (v0 * IntKind.i64.wrap (v1 + v2)))], iD (IntKind.i64.wrap (s7 + (1 : Int)))]))))))) else some (.out 1 [.one (.tuple #[])])))
def axialR1_L4_S (ka : Nat) (ca : List D) (kb : Nat) (cb : List D) (kc : Nat) (cc : List D) (x0 : Nat) (x1 : List D) : Go.Ev.Rd → Option Go.Ev.Rd
  | .next 0 ds => axialR1_L4_S0 ka ca kb cb kc cc x0 x1 ds
  | .next 1 ds => axialR1_L4_S1 ka ca kb cb kc cc x0 x1 ds
  | _ => none
theorem axialR1_L4_S_ok (ka : Nat) (ca : List D) (kb : Nat) (cb : List D) (kc : Nat) (cc : List D) (x0 : Nat) (x1 : List D) : ∀ s_ t_, axialR1_L4_S ka ca kb cb kc cc x0 x1 s_ = some t_ → Step (ctx [53] axialR1_sp) Tabs axialR1_L4_A (stateOf (axialR1_L4_gs ka ca kb cb kc cc x0 x1 s_)) (stateOf (axialR1_L4_gs ka ca kb cb kc cc x0 x1 t_)) (axialR1_L4_ax t_) ∧ EndOK axialR1_L4_A.nx axialR1_L4_A.low (axialR1_L4_gs ka ca kb cb kc cc x0 x1) t_
  | .next 0 ds, t_, h => by
    have h_ : axialR1_L4_S0 ka ca kb cb kc cc x0 x1 ds = some t_ := h
    clear h
    unfold axialR1_L4_S0 at h_
    obtain ⟨⟨s6n, s6c, s7⟩, e0, h0⟩ := pullD_elim h_
    clear h_
    obtain rfl := tup_inj e0
    by_cases b1_ : s7 < (kc : Int)
    · have h2_ := (if_pos b1_).symm.trans h0
      obtain ⟨f3_, h4_⟩ := guardP_elim h2_
      obtain ⟨v0, f5_, h6_⟩ := pullD_elim h4_
      replace f5_ := readD_elim f5_
      obtain ⟨f7_, h8_⟩ := guardP_elim h6_
      obtain ⟨v1, f9_, h10_⟩ := pullD_elim h8_
      replace f9_ := readD_elim f9_
      obtain ⟨f11_, h12_⟩ := guardP_elim h10_
      obtain ⟨v2, f13_, h14_⟩ := pullD_elim h12_
      replace f13_ := readD_elim f13_
      obtain ⟨f15_, h16_⟩ := guardP_elim h14_
      obtain rfl := Option.some.inj h16_
      exact ⟨step_pc 3000 (bT 1 []) [iD v0, iD v1, iD v2] [c_d b1_, c_f f3_, c_f f5_, c_f f7_, c_f f9_, c_f f11_, c_f f13_, c_f f15_] [] _ rfl (by kernel_rfl) (by kernel_rfl) (by kernel_rfl) (by kernel_rfl) (by kernel_rfl) (by kernel_rfl), trivial⟩
    have h2_ := (if_neg b1_).symm.trans h0
    obtain rfl := Option.some.inj h2_
    exact ⟨step_pc 3000 (bF 1 []) [] [c_n b1_] [] _ rfl (by kernel_rfl) (by kernel_rfl) (by kernel_rfl) (by kernel_rfl) (by kernel_rfl) (by kernel_rfl), by kernel_rfl, by kernel_rfl⟩
  | .next 1 ds, t_, h => by
    have h_ : axialR1_L4_S1 ka ca kb cb kc cc x0 x1 ds = some t_ := h
    clear h
    unfold axialR1_L4_S1 at h_
    obtain ⟨s7, e0, h0⟩ := pullD_elim h_
    clear h_
    obtain rfl := tup_inj e0
    by_cases b1_ : s7 < (kc : Int)
    · have h2_ := (if_pos b1_).symm.trans h0
      obtain ⟨f3_, h4_⟩ := guardP_elim h2_
      obtain ⟨v0, f5_, h6_⟩ := pullD_elim h4_
      replace f5_ := readD_elim f5_
      obtain ⟨f7_, h8_⟩ := guardP_elim h6_
      obtain ⟨v1, f9_, h10_⟩ := pullD_elim h8_
      replace f9_ := readD_elim f9_
      obtain ⟨f11_, h12_⟩ := guardP_elim h10_
      obtain ⟨v2, f13_, h14_⟩ := pullD_elim h12_
      replace f13_ := readD_elim f13_
      obtain rfl := Option.some.inj h14_
      exact ⟨step_pc 3000 (bT 1 []) [iD v0, iD v1, iD v2] [c_d b1_, c_f f3_, c_f f5_, c_f f7_, c_f f9_, c_f f11_, c_f f13_, ⟨fact (0 < 0 + 1 ∧ (0 + 1) * 8 ≤ 140737488355328 ∧ 0 + 1 ≤ 4611686018427387904), true, fact_mk (by decide)⟩] [] _ rfl (by kernel_rfl) (by kernel_rfl) (by kernel_rfl) (by kernel_rfl) (by kernel_rfl) (by kernel_rfl), trivial⟩
    have h2_ := (if_neg b1_).symm.trans h0
    obtain rfl := Option.some.inj h2_
    exact ⟨step_pc 3000 (bF 1 []) [] [c_n b1_] [] _ rfl (by kernel_rfl) (by kernel_rfl) (by kernel_rfl) (by kernel_rfl) (by kernel_rfl) (by kernel_rfl), by kernel_rfl, by kernel_rfl⟩
  | .next (_ + 2) _, _, h => by cases h
  | .out _ _, _, h => by cases h
theorem axialR1_L4_go (ka : Nat) (ca : List D) (kb : Nat) (cb : List D) (kc : Nat) (cc : List D) (x0 : Nat) (x1 : List D) {q : Nat} {ds : List D} {j : Nat} {es : List D} (h : runR (axialR1_L4_S ka ca kb cb kc cc x0 x1) (.next q ds) = some (.out j es)) : Runs (ctx [53] axialR1_sp) Tabs axialR1_L4_A (stateOf (axialR1_L4_gs ka ca kb cb kc cc x0 x1 (.next q ds))) (stateOf (axialR1_L4_gs ka ca kb cb kc cc x0 x1 (.out j es))) (axialR1_L4_ax (.out j es)) ∧ (nxtOf (axialR1_L4_gs ka ca kb cb kc cc x0 x1 (.out j es)), lowGS (axialR1_L4_gs ka ca kb cb kc cc x0 x1 (.out j es))) = (axialR1_L4_A.nx, axialR1_L4_A.low) :=
  runs_of' (good true _ _) axialR1_L4_ok (ax := axialR1_L4_ax) (fun _ _ => rfl) (fun _ _ => axOf_end _) (axialR1_L4_S_ok ka ca kb cb kc cc x0 x1) h
theorem axialR1_L4_in0 (ka : Nat) (ca : List D) (kb : Nat) (cb : List D) (kc : Nat) (cc : List D) (x0 : Nat) (x1 : List D) {es : List D} (h : runR (axialR1_L4_S ka ca kb cb kc cc x0 x1) (.next 1 [.one (.tuple #[]), iD ((0 : Int))]) = some (.out 0 es)) : LoopC (loopAt Try.prog 53 0) (axialR1_L4_E ka ca kb cb kc cc x0 x1) 5 noFrame axialR1_x4_0 es :=
  have r := axialR1_L4_go ka ca kb cb kc cc x0 x1 h
  loopin_as rfl (loop_in (l := axialR1_L4_A) (E := (axialR1_L4_E ka ca kb cb kc cc x0 x1)) (S := stateOf (axialR1_L4_gs ka ca kb cb kc cc x0 x1 (.next 1 [.one (.tuple #[]), iD ((0 : Int))]))) (ns := nsOf (axialR1_L4_gs ka ca kb cb kc cc x0 x1 (.next 1 [.one (.tuple #[]), iD ((0 : Int))]))) axialR1_L4_ok r.1 r.2 (by kernel_rfl) (by kernel_rfl) (by kernel_rfl) (by kernel_rfl))
theorem axialR1_L4_in1 (ka : Nat) (ca : List D) (kb : Nat) (cb : List D) (kc : Nat) (cc : List D) (x0 : Nat) (x1 : List D) {es : List D} (h : runR (axialR1_L4_S ka ca kb cb kc cc x0 x1) (.next 1 [.one (.tuple #[]), iD ((0 : Int))]) = some (.out 1 es)) : LoopC (loopAt Try.prog 53 0) (axialR1_L4_E ka ca kb cb kc cc x0 x1) 5 noFrame axialR1_x4_1 es :=
  have r := axialR1_L4_go ka ca kb cb kc cc x0 x1 h
  loopin_as rfl (loop_in (l := axialR1_L4_A) (E := (axialR1_L4_E ka ca kb cb kc cc x0 x1)) (S := stateOf (axialR1_L4_gs ka ca kb cb kc cc x0 x1 (.next 1 [.one (.tuple #[]), iD ((0 : Int))]))) (ns := nsOf (axialR1_L4_gs ka ca kb cb kc cc x0 x1 (.next 1 [.one (.tuple #[]), iD ((0 : Int))]))) axialR1_L4_ok r.1 r.2 (by kernel_rfl) (by kernel_rfl) (by kernel_rfl) (by kernel_rfl))
def axialR1_M (ka : Nat) (ca : List D) (kb : Nat) (cb : List D) (kc : Nat) (cc : List D) : Option D := pullD (α := Nat × (List D)) (m_20 [.agg [.list ka ca, .list kb cb]]) (fun d => ((D.ln d), (D.lc d))) (fun (k0, c1) => .list k0 c1) fun (k0, c1) => (bindL (runR (axialR1_L4_S ka ca kb cb kc cc k0 c1) (.next 1 [.one (.tuple #[]), iD ((0 : Int))])) fun j ds => (if j = 0 then pullD (α := Nat × (List D)) (some (.tup ds)) (fun d => ((D.ln (D.at d 0)), (D.lc (D.at d 0)))) (fun (k2, c3) => .tup [.list k2 c3]) fun (k2, c3) => (guardP ((0 + k2) * 1 ≤ c3.length ∧ 0 < 1) (some (.list k2 c3))) else if j = 1 then pullD (some (.tup ds)) (fun _ => ()) (fun _ => .tup [.one (.tuple #[])]) fun _ => (some (.list 0 [])) else none))
theorem axialR1_M_ok (ka : Nat) (ca : List D) (kb : Nat) (cb : List D) (kc : Nat) (cc : List D) {r : D} (h : axialR1_M ka ca kb cb kc cc = some r) : Con 53 [.agg [.list ka ca, .list kb cb], .list kc cc] r := by
  unfold axialR1_M at h
  obtain ⟨⟨k0, c1⟩, f1_, h2_⟩ := pullD_elim h
  replace f1_ := m_20_ok f1_
  obtain ⟨j, ds, e3_, h4_⟩ := bindL_elim h2_
  by_cases j5_ : j = 0
  · have h8_ := (if_pos j5_).symm.trans h4_
    clear h4_
    subst j5_
    obtain ⟨⟨k2, c3⟩, e6_, h9_⟩ := pullD_elim h8_
    clear h8_
    obtain rfl := tup_inj e6_
    have k7_ := axialR1_L4_in0 ka ca kb cb kc cc k0 c1 e3_
    obtain ⟨f10_, h11_⟩ := guardP_elim h9_
    obtain rfl := Option.some.inj h11_
    exact con_pc (op := true) (I := [53]) (sp := axialR1_sp) 3000 [] [.list k0 c1, .tup [iD (Int.ofNat 0), .list k2 c3]] [c_f f10_] [k_c f1_, k_l k7_ [] [.tup [iD (Int.ofNat 0), .list k2 c3]] []] (by kernel_rfl)
  have h12_ := (if_neg j5_).symm.trans h4_
  clear h4_
  by_cases j13_ : j = 1
  · have h16_ := (if_pos j13_).symm.trans h12_
    clear h12_
    subst j13_
    obtain ⟨⟨⟩, e14_, h17_⟩ := pullD_elim h16_
    clear h16_
    obtain rfl := tup_inj e14_
    have k15_ := axialR1_L4_in1 ka ca kb cb kc cc k0 c1 e3_
    obtain rfl := Option.some.inj h17_
    exact con_pc (op := true) (I := [53]) (sp := axialR1_sp) 3000 [] [.list k0 c1, .tup [iD (Int.ofNat 1), .one (.tuple #[])]] [] [k_c f1_, k_l k15_ [] [.tup [iD (Int.ofNat 1), .one (.tuple #[])]] []] (by kernel_rfl)
  have h18_ := (if_neg j13_).symm.trans h12_
  clear h12_
  cases h18_
def m_53 (ds : List D) : Option D := pullD (α := Nat × (List D) × Nat × (List D) × Nat × (List D)) (some (.tup ds)) (fun d => ((D.ln (D.at (D.at d 0) 0)), (D.lc (D.at (D.at d 0) 0)), (D.ln (D.at (D.at d 0) 1)), (D.lc (D.at (D.at d 0) 1)), (D.ln (D.at d 1)), (D.lc (D.at d 1)))) (fun (ka, ca, kb, cb, kc, cc) => .tup [.agg [.list ka ca, .list kb cb], .list kc cc]) fun (ka, ca, kb, cb, kc, cc) => axialR1_M ka ca kb cb kc cc
theorem m_53_ok {ds : List D} {r : D} (h : m_53 ds = some r) : Con 53 ds r := by
  unfold m_53 at h
  obtain ⟨⟨ka, ca, kb, cb, kc, cc⟩, e0, h0⟩ := pullD_elim h
  obtain rfl := tup_inj e0
  exact axialR1_M_ok ka ca kb cb kc cc h0
theorem m_53_eq (ka : Nat) (ca : List D) (kb : Nat) (cb : List D) (kc : Nat) (cc : List D) : m_53 [.agg [.list ka ca, .list kb cb], .list kc cc] = axialR1_M ka ca kb cb kc cc := pullD_some (ka, ca, kb, cb, kc, cc) rfl rfl
def axialR_sp : List LSpec := []
def axialR_M (ka : Nat) (ca : List D) (kb : Nat) (cb : List D) : Option D := pullD (α := Nat × (List D)) (m_53 [.agg [.list ka ca, .list kb cb], .list ka ca]) (fun d => ((D.ln d), (D.lc d))) (fun (k0, c1) => .list k0 c1) fun (k0, c1) => (pullD (α := Nat × (List D)) (m_53 [.agg [.list ka ca, .list kb cb], .list kb cb]) (fun d => ((D.ln d), (D.lc d))) (fun (k2, c3) => .list k2 c3) fun (k2, c3) => (some (.agg [.list k0 c1, .list k2 c3])))
theorem axialR_M_ok (ka : Nat) (ca : List D) (kb : Nat) (cb : List D) {r : D} (h : axialR_M ka ca kb cb = some r) : Con 22 [.agg [.list ka ca, .list kb cb]] r := by
  unfold axialR_M at h
  obtain ⟨⟨k0, c1⟩, f1_, h2_⟩ := pullD_elim h
  replace f1_ := m_53_ok f1_
  obtain ⟨⟨k2, c3⟩, f3_, h4_⟩ := pullD_elim h2_
  replace f3_ := m_53_ok f3_
  obtain rfl := Option.some.inj h4_
  exact con_pc (op := true) (I := [22]) (sp := axialR_sp) 3000 [] [.list k0 c1, .list k2 c3] [] [k_c f1_, k_c f3_] (by kernel_rfl)
def m_22 (ds : List D) : Option D := pullD (α := Nat × (List D) × Nat × (List D)) (some (.tup ds)) (fun d => ((D.ln (D.at (D.at d 0) 0)), (D.lc (D.at (D.at d 0) 0)), (D.ln (D.at (D.at d 0) 1)), (D.lc (D.at (D.at d 0) 1)))) (fun (ka, ca, kb, cb) => .tup [.agg [.list ka ca, .list kb cb]]) fun (ka, ca, kb, cb) => axialR_M ka ca kb cb
theorem m_22_ok {ds : List D} {r : D} (h : m_22 ds = some r) : Con 22 ds r := by
  unfold m_22 at h
  obtain ⟨⟨ka, ca, kb, cb⟩, e0, h0⟩ := pullD_elim h
  obtain rfl := tup_inj e0
  exact axialR_M_ok ka ca kb cb h0
theorem m_22_eq (ka : Nat) (ca : List D) (kb : Nat) (cb : List D) : m_22 [.agg [.list ka ca, .list kb cb]] = axialR_M ka ca kb cb := pullD_some (ka, ca, kb, cb) rfl rfl
def sumsR_x3_0 : LExit := ⟨some 0, [.grow 3 1], (4 :: (List.range' 6 18))⟩
def sumsR_sp : List LSpec := [⟨54, 3, [sumsR_x3_0]⟩]
def sumsR_L3_E (k : Nat) (c : List D)  : List AV × AHeap := ([.dsl 0, .pure (.tuple #[]), .pure (.slice none 0 0), .bslx 2 0 1 0, .pure (.int .i64 (0 : Int)), .bslx 2 0 1 0, .pure (.tuple #[]), .pure (.tuple #[]), .pure (.tuple #[]), .pure (.tuple #[]), .pure (.tuple #[]), .pure (.tuple #[]), .pure (.tuple #[]), .pure (.tuple #[]), .pure (.tuple #[]), .pure (.tuple #[]), .pure (.tuple #[]), .pure (.tuple #[]), .pure (.tuple #[]), .pure (.tuple #[]), .pure (.tuple #[]), .pure (.tuple #[]), .pure (.tuple #[]), .pure (.tuple #[]), .pure (.tuple #[])], [(2, { cells := [], opn := some 1, kind := .big [iD (0 : Int)] }), (0, { cells := [], opn := none, kind := .deep k c })])
def sumsR_L3_A : LoopAt := ⟨54, loopAt Try.prog 54 0, 3, 23, 2, noFrame⟩
theorem sumsR_L3_ok : (sumsR_L3_A).OK := ⟨by show 3 ≤ 23; decide, by show 2 ≤ 3; decide, by kernel_rfl, rfl⟩
def sumsR_L3_gs (k : Nat) (c : List D)  : Go.Ev.Rd → Option GS
  | .next 0 ds => ghost [.grow 3 1, .val 4] (List.range' 6 18) (sumsR_L3_E k c).1 (sumsR_L3_E k c).2 3 ds
  | .out 0 ds => ghost sumsR_x3_0.live sumsR_x3_0.junk (sumsR_L3_E k c).1 (sumsR_L3_E k c).2 3 ds
  | _ => none
def sumsR_L3_ex : Nat → Option Nat
  | 0 => sumsR_x3_0.ex
  | _ => none
def sumsR_L3_ax : Go.Ev.Rd → AX
  | .next _ _ => .normal
  | .out j _ => axOf (sumsR_L3_ex j)
def sumsR_L3_S0 (k : Nat) (c : List D)  (ds : List D) : Option Go.Ev.Rd := pullD (α := Nat × (List D) × Int) (some (.tup ds)) (fun d => ((D.ln (D.at d 0)), (D.lc (D.at d 0)), (D.vi (D.at d 1)))) (fun (s3n, s3c, s4) => .tup [.list s3n s3c, iD s4]) fun (s3n, s3c, s4) => ((if s4 < (k : Int) then guardP ((0 : Int) ≤ s4 ∧ s4.toNat < s3n) (pullD (α := Int) (readD s3c (0 + s4.toNat * 1) 1 false) (fun d => ((D.vi d))) (fun v0 => iD v0) fun v0 => (guardP ((0 : Int) ≤ s4 ∧ s4.toNat < k) (pullD (α := Int) (readD c (s4.toNat * 1) 1 false) (fun d => ((D.vi d))) (fun v1 => iD v1) fun v1 => (guardP ((∀ (u : D), u ∈ [dCell (.int .i64 (IntKind.i64.wrap (v0 + v1)))] → cellD u) ∧ s3n * 1 ≤ s3c.length ∧ (s3n + (0 + 1)) * 8 ≤ 140737488355328 ∧ s3n + (0 + 1) ≤ 4611686018427387904) (some (.next 0 [.list (s3n + (0 + 1)) (List.append (List.take (s3n * 1) s3c) [dCell (.int .i64 (IntKind.i64.wrap (v0 + v1)))]), iD (IntKind.i64.wrap (s4 + (1 : Int)))])))))) else some (.out 0 [.list s3n s3c])))
def sumsR_L3_S (k : Nat) (c : List D)  : Go.Ev.Rd → Option Go.Ev.Rd
  | .next 0 ds => sumsR_L3_S0 k c ds
  | _ => none
theorem sumsR_L3_S_ok (k : Nat) (c : List D)  : ∀ s_ t_, sumsR_L3_S k c s_ = some t_ → Step (ctx [54] sumsR_sp) Tabs sumsR_L3_A (stateOf (sumsR_L3_gs k c s_)) (stateOf (sumsR_L3_gs k c t_)) (sumsR_L3_ax t_) ∧ EndOK sumsR_L3_A.nx sumsR_L3_A.low (sumsR_L3_gs k c) t_
  | .next 0 ds, t_, h => by
    have h_ : sumsR_L3_S0 k c ds = some t_ := h
    clear h
    unfold sumsR_L3_S0 at h_
    obtain ⟨⟨s3n, s3c, s4⟩, e0, h0⟩ := pullD_elim h_
    clear h_
    obtain rfl := tup_inj e0
    by_cases b1_ : s4 < (k : Int)
    · have h2_ := (if_pos b1_).symm.trans h0
      obtain ⟨f3_, h4_⟩ := guardP_elim h2_
      obtain ⟨v0, f5_, h6_⟩ := pullD_elim h4_
      replace f5_ := readD_elim f5_
      obtain ⟨f7_, h8_⟩ := guardP_elim h6_
      obtain ⟨v1, f9_, h10_⟩ := pullD_elim h8_
      replace f9_ := readD_elim f9_
      obtain ⟨f11_, h12_⟩ := guardP_elim h10_
      obtain rfl := Option.some.inj h12_
      exact ⟨step_pc 3000 (bT 1 []) [iD v0, iD v1] [c_d b1_, c_f f3_, c_f f5_, c_f f7_, c_f f9_, c_f f11_] [] _ rfl (by kernel_rfl) (by kernel_rfl) (by kernel_rfl) (by kernel_rfl) (by kernel_rfl) (by kernel_rfl), trivial⟩
    have h2_ := (if_neg b1_).symm.trans h0
    obtain rfl := Option.some.inj h2_
    exact ⟨step_pc 3000 (bF 1 []) [] [c_n b1_] [] _ rfl (by kernel_rfl) (by kernel_rfl) (by kernel_rfl) (by kernel_rfl) (by kernel_rfl) (by kernel_rfl), by kernel_rfl, by kernel_rfl⟩
  | .next (_ + 1) _, _, h => by cases h
  | .out _ _, _, h => by cases h
theorem sumsR_L3_go (k : Nat) (c : List D)  {q : Nat} {ds : List D} {j : Nat} {es : List D} (h : runR (sumsR_L3_S k c) (.next q ds) = some (.out j es)) : Runs (ctx [54] sumsR_sp) Tabs sumsR_L3_A (stateOf (sumsR_L3_gs k c (.next q ds))) (stateOf (sumsR_L3_gs k c (.out j es))) (sumsR_L3_ax (.out j es)) ∧ (nxtOf (sumsR_L3_gs k c (.out j es)), lowGS (sumsR_L3_gs k c (.out j es))) = (sumsR_L3_A.nx, sumsR_L3_A.low) :=
  runs_of' (good true _ _) sumsR_L3_ok (ax := sumsR_L3_ax) (fun _ _ => rfl) (fun _ _ => axOf_end _) (sumsR_L3_S_ok k c) h
theorem sumsR_L3_in0 (k : Nat) (c : List D)  {es : List D} (h : runR (sumsR_L3_S k c) (.next 0 [.list (1) ([iD (0 : Int)]), iD ((0 : Int))]) = some (.out 0 es)) : LoopC (loopAt Try.prog 54 0) (sumsR_L3_E k c) 3 noFrame sumsR_x3_0 es :=
  have r := sumsR_L3_go k c h
  loopin_as rfl (loop_in (l := sumsR_L3_A) (E := (sumsR_L3_E k c)) (S := stateOf (sumsR_L3_gs k c (.next 0 [.list (1) ([iD (0 : Int)]), iD ((0 : Int))]))) (ns := nsOf (sumsR_L3_gs k c (.next 0 [.list (1) ([iD (0 : Int)]), iD ((0 : Int))]))) sumsR_L3_ok r.1 r.2 (by kernel_rfl) (by kernel_rfl) (by kernel_rfl) (by kernel_rfl))
def sumsR_M (k : Nat) (c : List D) : Option D := bindL (runR (sumsR_L3_S k c) (.next 0 [.list (1) ([iD (0 : Int)]), iD ((0 : Int))])) fun j ds => (if j = 0 then pullD (α := Nat × (List D)) (some (.tup ds)) (fun d => ((D.ln (D.at d 0)), (D.lc (D.at d 0)))) (fun (k0, c1) => .tup [.list k0 c1]) fun (k0, c1) => (guardP ((0 + k0) * 1 ≤ c1.length ∧ 0 < 1) (some (.list k0 c1))) else none)
theorem sumsR_M_ok (k : Nat) (c : List D) {r : D} (h : sumsR_M k c = some r) : Con 54 [.list k c] r := by
  unfold sumsR_M at h
  obtain ⟨j, ds, e1_, h2_⟩ := bindL_elim h
  by_cases j3_ : j = 0
  · have h6_ := (if_pos j3_).symm.trans h2_
    clear h2_
    subst j3_
    obtain ⟨⟨k0, c1⟩, e4_, h7_⟩ := pullD_elim h6_
    clear h6_
    obtain rfl := tup_inj e4_
    have k5_ := sumsR_L3_in0 k c e1_
    obtain ⟨f8_, h9_⟩ := guardP_elim h7_
    obtain rfl := Option.some.inj h9_
    exact con_pc (op := true) (I := [54]) (sp := sumsR_sp) 3000 [] [.tup [iD (Int.ofNat 0), .list k0 c1]] [c_f f8_] [k_l k5_ [] [.tup [iD (Int.ofNat 0), .list k0 c1]] []] (by kernel_rfl)
  have h10_ := (if_neg j3_).symm.trans h2_
  clear h2_
  cases h10_
def m_54 (ds : List D) : Option D := pullD (α := Nat × (List D)) (some (.tup ds)) (fun d => ((D.ln (D.at d 0)), (D.lc (D.at d 0)))) (fun (k, c) => .tup [.list k c]) fun (k, c) => sumsR_M k c
theorem m_54_ok {ds : List D} {r : D} (h : m_54 ds = some r) : Con 54 ds r := by
  unfold m_54 at h
  obtain ⟨⟨k, c⟩, e0, h0⟩ := pullD_elim h
  obtain rfl := tup_inj e0
  exact sumsR_M_ok k c h0
theorem m_54_eq (k : Nat) (c : List D) : m_54 [.list k c] = sumsR_M k c := pullD_some (k, c) rfl rfl
def thrustsR_sp : List LSpec := []
def thrustsR_M (ka : Nat) (ca : List D) (kb : Nat) (cb : List D) : Option D := pullD (α := Nat × (List D) × Nat × (List D)) (m_22 [.agg [.list ka ca, .list kb cb]]) (fun d => ((D.ln (D.at d 0)), (D.lc (D.at d 0)), (D.ln (D.at d 1)), (D.lc (D.at d 1)))) (fun (k0, c1, k2, c3) => .agg [.list k0 c1, .list k2 c3]) fun (k0, c1, k2, c3) => (pullD (α := Nat × (List D)) (m_54 [.list k0 c1]) (fun d => ((D.ln d), (D.lc d))) (fun (k4, c5) => .list k4 c5) fun (k4, c5) => (pullD (α := Nat × (List D)) (m_54 [.list k2 c3]) (fun d => ((D.ln d), (D.lc d))) (fun (k6, c7) => .list k6 c7) fun (k6, c7) => (some (.agg [.list k4 c5, .list k6 c7]))))
theorem thrustsR_M_ok (ka : Nat) (ca : List D) (kb : Nat) (cb : List D) {r : D} (h : thrustsR_M ka ca kb cb = some r) : Con 23 [.agg [.list ka ca, .list kb cb]] r := by
  unfold thrustsR_M at h
  obtain ⟨⟨k0, c1, k2, c3⟩, f1_, h2_⟩ := pullD_elim h
  replace f1_ := m_22_ok f1_
  obtain ⟨⟨k4, c5⟩, f3_, h4_⟩ := pullD_elim h2_
  replace f3_ := m_54_ok f3_
  obtain ⟨⟨k6, c7⟩, f5_, h6_⟩ := pullD_elim h4_
  replace f5_ := m_54_ok f5_
  obtain rfl := Option.some.inj h6_
  exact con_pc (op := true) (I := [23]) (sp := thrustsR_sp) 3000 [] [.agg [.list k0 c1, .list k2 c3], .list k4 c5, .list k6 c7] [] [k_c f1_, k_c f3_, k_c f5_] (by kernel_rfl)
def m_23 (ds : List D) : Option D := pullD (α := Nat × (List D) × Nat × (List D)) (some (.tup ds)) (fun d => ((D.ln (D.at (D.at d 0) 0)), (D.lc (D.at (D.at d 0) 0)), (D.ln (D.at (D.at d 0) 1)), (D.lc (D.at (D.at d 0) 1)))) (fun (ka, ca, kb, cb) => .tup [.agg [.list ka ca, .list kb cb]]) fun (ka, ca, kb, cb) => thrustsR_M ka ca kb cb
theorem m_23_ok {ds : List D} {r : D} (h : m_23 ds = some r) : Con 23 ds r := by
  unfold m_23 at h
  obtain ⟨⟨ka, ca, kb, cb⟩, e0, h0⟩ := pullD_elim h
  obtain rfl := tup_inj e0
  exact thrustsR_M_ok ka ca kb cb h0
theorem m_23_eq (ka : Nat) (ca : List D) (kb : Nat) (cb : List D) : m_23 [.agg [.list ka ca, .list kb cb]] = thrustsR_M ka ca kb cb := pullD_some (ka, ca, kb, cb) rfl rfl
def ints_x4_0 : LExit := ⟨some 0, [], (4 :: (5 :: (List.range' 11 15)))⟩
def ints_x4_1 : LExit := ⟨none, [.val 4], (5 :: (List.range' 11 15))⟩
def ints_sp : List LSpec := [⟨19, 4, [ints_x4_0, ints_x4_1]⟩]
def ints_L4_E (ka : Nat) (ca : List D) (kb : Nat) (cb : List D)  : List AV × AHeap := ([.dsl 0, .dsl 1, .pure (.tuple #[]), .pure (.tuple #[]), .pure (.bool false), .pure (.int .i64 (0 : Int)), .dsl 0, .pure (.int .i64 (ka : Int)), .dsl 1, .pure (.int .i64 (kb : Int)), .pure (.bool ((ka : Int) != (kb : Int))), .pure (.tuple #[]), .pure (.tuple #[]), .pure (.tuple #[]), .pure (.tuple #[]), .pure (.tuple #[]), .pure (.tuple #[]), .pure (.tuple #[]), .pure (.tuple #[]), .pure (.tuple #[]), .pure (.tuple #[]), .pure (.tuple #[]), .pure (.tuple #[]), .pure (.tuple #[]), .pure (.tuple #[]), .pure (.tuple #[])], [(1, { cells := [], opn := none, kind := .deep kb cb }), (0, { cells := [], opn := none, kind := .deep ka ca })])
def ints_L4_A : LoopAt := ⟨19, loopAt Try.prog 19 0, 2, 19, 2, noFrame⟩
theorem ints_L4_ok : (ints_L4_A).OK := ⟨by show 2 ≤ 19; decide, by show 2 ≤ 2; decide, by kernel_rfl, rfl⟩
def ints_L4_gs (ka : Nat) (ca : List D) (kb : Nat) (cb : List D)  : Go.Ev.Rd → Option GS
  | .next 0 ds => ghost [.val 5] (4 :: (List.range' 11 15)) (ints_L4_E ka ca kb cb).1 (ints_L4_E ka ca kb cb).2 2 ds
  | .out 0 ds => ghost ints_x4_0.live ints_x4_0.junk (ints_L4_E ka ca kb cb).1 (ints_L4_E ka ca kb cb).2 2 ds
  | .out 1 ds => ghost ints_x4_1.live ints_x4_1.junk (ints_L4_E ka ca kb cb).1 (ints_L4_E ka ca kb cb).2 2 ds
  | _ => none
def ints_L4_ex : Nat → Option Nat
  | 0 => ints_x4_0.ex
  | 1 => ints_x4_1.ex
  | _ => none
def ints_L4_ax : Go.Ev.Rd → AX
  | .next _ _ => .normal
  | .out j _ => axOf (ints_L4_ex j)
def ints_L4_S0 (ka : Nat) (ca : List D) (kb : Nat) (cb : List D)  (ds : List D) : Option Go.Ev.Rd := pullD (α := Int) (some (.tup ds)) (fun d => ((D.vi (D.at d 0)))) (fun s5 => .tup [iD s5]) fun s5 => ((if s5 < (ka : Int) then guardP ((0 : Int) ≤ s5 ∧ s5.toNat < ka) (pullD (α := Int) (readD ca (s5.toNat * 1) 1 false) (fun d => ((D.vi d))) (fun v0 => iD v0) fun v0 => (guardP ((0 : Int) ≤ s5 ∧ s5.toNat < kb) (pullD (α := Int) (readD cb (s5.toNat * 1) 1 false) (fun d => ((D.vi d))) (fun v1 => iD v1) fun v1 => ((if v0 ≠ v1 then some (.out 1 [.one (.bool false)]) else some (.next 0 [iD (IntKind.i64.wrap (s5 + (1 : Int)))])))))) else some (.out 0 [])))
def ints_L4_S (ka : Nat) (ca : List D) (kb : Nat) (cb : List D)  : Go.Ev.Rd → Option Go.Ev.Rd
  | .next 0 ds => ints_L4_S0 ka ca kb cb ds
  | _ => none
theorem ints_L4_S_ok (ka : Nat) (ca : List D) (kb : Nat) (cb : List D)  : ∀ s_ t_, ints_L4_S ka ca kb cb s_ = some t_ → Step (ctx [19] ints_sp) Tabs ints_L4_A (stateOf (ints_L4_gs ka ca kb cb s_)) (stateOf (ints_L4_gs ka ca kb cb t_)) (ints_L4_ax t_) ∧ EndOK ints_L4_A.nx ints_L4_A.low (ints_L4_gs ka ca kb cb) t_
  | .next 0 ds, t_, h => by
    have h_ : ints_L4_S0 ka ca kb cb ds = some t_ := h
    clear h
    unfold ints_L4_S0 at h_
    obtain ⟨s5, e0, h0⟩ := pullD_elim h_
    clear h_
    obtain rfl := tup_inj e0
    by_cases b1_ : s5 < (ka : Int)
    · have h2_ := (if_pos b1_).symm.trans h0
      obtain ⟨f3_, h4_⟩ := guardP_elim h2_
      obtain ⟨v0, f5_, h6_⟩ := pullD_elim h4_
      replace f5_ := readD_elim f5_
      obtain ⟨f7_, h8_⟩ := guardP_elim h6_
      obtain ⟨v1, f9_, h10_⟩ := pullD_elim h8_
      replace f9_ := readD_elim f9_
      by_cases b11_ : v0 ≠ v1
      · have h12_ := (if_pos b11_).symm.trans h10_
        obtain rfl := Option.some.inj h12_
        exact ⟨step_pc 3000 (bT 2 []) [iD v0, iD v1] [c_d b1_, c_f f3_, c_f f5_, c_f f7_, c_f f9_, c_b b11_] [] _ rfl (by kernel_rfl) (by kernel_rfl) (by kernel_rfl) (by kernel_rfl) (by kernel_rfl) (by kernel_rfl), by kernel_rfl, by kernel_rfl⟩
      have h12_ := (if_neg b11_).symm.trans h10_
      have b13_ : v0 = v1 := by first | exact b11_ | simpa using b11_
      obtain rfl := Option.some.inj h12_
      exact ⟨step_pc 3000 (bT 1 (bF 1 [])) [iD v0, iD v1] [c_d b1_, c_f f3_, c_f f5_, c_f f7_, c_f f9_, c_bn b13_] [] _ rfl (by kernel_rfl) (by kernel_rfl) (by kernel_rfl) (by kernel_rfl) (by kernel_rfl) (by kernel_rfl), trivial⟩
    have h2_ := (if_neg b1_).symm.trans h0
    obtain rfl := Option.some.inj h2_
    exact ⟨step_pc 3000 (bF 1 []) [] [c_n b1_] [] _ rfl (by kernel_rfl) (by kernel_rfl) (by kernel_rfl) (by kernel_rfl) (by kernel_rfl) (by kernel_rfl), by kernel_rfl, by kernel_rfl⟩
  | .next (_ + 1) _, _, h => by cases h
  | .out _ _, _, h => by cases h
theorem ints_L4_go (ka : Nat) (ca : List D) (kb : Nat) (cb : List D)  {q : Nat} {ds : List D} {j : Nat} {es : List D} (h : runR (ints_L4_S ka ca kb cb) (.next q ds) = some (.out j es)) : Runs (ctx [19] ints_sp) Tabs ints_L4_A (stateOf (ints_L4_gs ka ca kb cb (.next q ds))) (stateOf (ints_L4_gs ka ca kb cb (.out j es))) (ints_L4_ax (.out j es)) ∧ (nxtOf (ints_L4_gs ka ca kb cb (.out j es)), lowGS (ints_L4_gs ka ca kb cb (.out j es))) = (ints_L4_A.nx, ints_L4_A.low) :=
  runs_of' (good true _ _) ints_L4_ok (ax := ints_L4_ax) (fun _ _ => rfl) (fun _ _ => axOf_end _) (ints_L4_S_ok ka ca kb cb) h
theorem ints_L4_in0 (ka : Nat) (ca : List D) (kb : Nat) (cb : List D)  {es : List D} (h : runR (ints_L4_S ka ca kb cb) (.next 0 [iD ((0 : Int))]) = some (.out 0 es)) : LoopC (loopAt Try.prog 19 0) (ints_L4_E ka ca kb cb) 2 noFrame ints_x4_0 es :=
  have r := ints_L4_go ka ca kb cb h
  loopin_as rfl (loop_in (l := ints_L4_A) (E := (ints_L4_E ka ca kb cb)) (S := stateOf (ints_L4_gs ka ca kb cb (.next 0 [iD ((0 : Int))]))) (ns := nsOf (ints_L4_gs ka ca kb cb (.next 0 [iD ((0 : Int))]))) ints_L4_ok r.1 r.2 (by kernel_rfl) (by kernel_rfl) (by kernel_rfl) (by kernel_rfl))
theorem ints_L4_in1 (ka : Nat) (ca : List D) (kb : Nat) (cb : List D)  {es : List D} (h : runR (ints_L4_S ka ca kb cb) (.next 0 [iD ((0 : Int))]) = some (.out 1 es)) : LoopC (loopAt Try.prog 19 0) (ints_L4_E ka ca kb cb) 2 noFrame ints_x4_1 es :=
  have r := ints_L4_go ka ca kb cb h
  loopin_as rfl (loop_in (l := ints_L4_A) (E := (ints_L4_E ka ca kb cb)) (S := stateOf (ints_L4_gs ka ca kb cb (.next 0 [iD ((0 : Int))]))) (ns := nsOf (ints_L4_gs ka ca kb cb (.next 0 [iD ((0 : Int))]))) ints_L4_ok r.1 r.2 (by kernel_rfl) (by kernel_rfl) (by kernel_rfl) (by kernel_rfl))
def ints_M (ka : Nat) (ca : List D) (kb : Nat) (cb : List D) : Option D := (if (ka : Int) ≠ (kb : Int) then some (.one (.bool false)) else bindL (runR (ints_L4_S ka ca kb cb) (.next 0 [iD ((0 : Int))])) fun j ds => (if j = 0 then pullD (some (.tup ds)) (fun _ => ()) (fun _ => .tup []) fun _ => (some (.one (.bool true))) else if j = 1 then pullD (α := Bool) (some (.tup ds)) (fun d => ((D.vb (D.at d 0)))) (fun l0 => .tup [.one (.bool l0)]) fun l0 => (some (.one (.bool l0))) else none))
theorem ints_M_ok (ka : Nat) (ca : List D) (kb : Nat) (cb : List D) {r : D} (h : ints_M ka ca kb cb = some r) : Con 19 [.list ka ca, .list kb cb] r := by
  unfold ints_M at h
  by_cases b1_ : (ka : Int) ≠ (kb : Int)
  · have h2_ := (if_pos b1_).symm.trans h
    obtain rfl := Option.some.inj h2_
    exact con_pc (op := true) (I := [19]) (sp := ints_sp) 3000 (bT 1 []) [] [c_b b1_] [] (by kernel_rfl)
  have h2_ := (if_neg b1_).symm.trans h
  have b3_ : (ka : Int) = (kb : Int) := by first | exact b1_ | simpa using b1_
  obtain ⟨j, ds, e4_, h5_⟩ := bindL_elim h2_
  by_cases j6_ : j = 0
  · have h9_ := (if_pos j6_).symm.trans h5_
    clear h5_
    subst j6_
    obtain ⟨⟨⟩, e7_, h10_⟩ := pullD_elim h9_
    clear h9_
    obtain rfl := tup_inj e7_
    have k8_ := ints_L4_in0 ka ca kb cb e4_
    obtain rfl := Option.some.inj h10_
    exact con_pc (op := true) (I := [19]) (sp := ints_sp) 3000 (bF 1 []) [.tup [iD (Int.ofNat 0)]] [c_bn b3_] [k_l k8_ [] [.tup [iD (Int.ofNat 0)]] []] (by kernel_rfl)
  have h11_ := (if_neg j6_).symm.trans h5_
  clear h5_
  by_cases j12_ : j = 1
  · have h15_ := (if_pos j12_).symm.trans h11_
    clear h11_
    subst j12_
    obtain ⟨l0, e13_, h16_⟩ := pullD_elim h15_
    clear h15_
    obtain rfl := tup_inj e13_
    have k14_ := ints_L4_in1 ka ca kb cb e4_
    obtain rfl := Option.some.inj h16_
    exact con_pc (op := true) (I := [19]) (sp := ints_sp) 3000 (bF 1 []) [.tup [iD (Int.ofNat 1), .one (.bool l0)]] [c_bn b3_] [k_l k14_ [] [.tup [iD (Int.ofNat 1), .one (.bool l0)]] []] (by kernel_rfl)
  have h17_ := (if_neg j12_).symm.trans h11_
  clear h11_
  cases h17_
def m_19 (ds : List D) : Option D := pullD (α := Nat × (List D) × Nat × (List D)) (some (.tup ds)) (fun d => ((D.ln (D.at d 0)), (D.lc (D.at d 0)), (D.ln (D.at d 1)), (D.lc (D.at d 1)))) (fun (ka, ca, kb, cb) => .tup [.list ka ca, .list kb cb]) fun (ka, ca, kb, cb) => ints_M ka ca kb cb
theorem m_19_ok {ds : List D} {r : D} (h : m_19 ds = some r) : Con 19 ds r := by
  unfold m_19 at h
  obtain ⟨⟨ka, ca, kb, cb⟩, e0, h0⟩ := pullD_elim h
  obtain rfl := tup_inj e0
  exact ints_M_ok ka ca kb cb h0
theorem m_19_eq (ka : Nat) (ca : List D) (kb : Nat) (cb : List D) : m_19 [.list ka ca, .list kb cb] = ints_M ka ca kb cb := pullD_some (ka, ca, kb, cb) rfl rfl
end
end Go.Proofs.Ytbfefnfmdkgfjaa
/- The stage's examples hold. -/
namespace Go.Proofs.Ytbfefnfmdkgfjaa
open Go.Ev Go.RowKit
set_option maxRecDepth 100000
noncomputable section
theorem aw_all : Con 8 [] (.one (.bool true)) :=
  con_ofK (S := [(44, 3000041)]) (K := []) (sp := []) (n := 60000) (ora := []) (res := []) (conds := [(false, false), (false, false), (false, false), (false, false), (false, false), (false, false), (false, false), (false, false), (false, false), (false, false), (false, false), (false, false), (false, false), (false, false), (false, false), (false, false), (false, false), (false, false), (false, false), (false, false), (false, false), (false, false)]) (cls := [])
    (by kernel_rfl) ⟨rfl, rfl, rfl, rfl, rfl, rfl, rfl, rfl, rfl, rfl, rfl, rfl, rfl, rfl, rfl, rfl, rfl, rfl, rfl, rfl, rfl, rfl, trivial⟩ trivial
def m_8 (ds : List D) : Option D := pullD (some (.tup ds)) (fun _ => ()) (fun _ => .tup []) fun _ => some (.one (.bool true))
theorem m_8_ok {ds : List D} {r : D} (h : m_8 ds = some r) : Con 8 ds r := by
  unfold m_8 at h
  obtain ⟨⟨⟩, e0, h0⟩ := pullD_elim h
  obtain rfl := tup_inj e0
  obtain rfl := Option.some.inj h0
  exact aw_all
theorem m_8_eq : m_8 [] = some (.one (.bool true)) := pullD_some () rfl rfl
end
end Go.Proofs.Ytbfefnfmdkgfjaa
