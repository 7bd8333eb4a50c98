/- For any window, valid or not, and any kind, the law ForceWindows of the program answers true, and its arguments read as they did. CONDITIONS: none. -/
import Derived.Test.YtbfefnfmdkgfjaaTD
import Derived.Test.YtbfefnfmdkgfjaaTF
import Derived.Test.YtbfefnfmdkgfjaaTA
set_option linter.unusedVariables false
set_option linter.unusedSimpArgs false
set_option linter.unusedSectionVars false
set_option linter.unnecessarySimpa false
namespace Go.Proofs.Ytbfefnfmdkgfjaa
open Go.Ev Go.RowKit
set_option maxRecDepth 100000
set_option maxHeartbeats 8000000
set_option linter.all false
noncomputable section
def radialR_x3_0 : LExit := ⟨some 0, [.cgrow 3 0 1, .cgrow 3 1 1], (List.range' 4 41)⟩
def radialR_x3_1 : LExit := ⟨some 0, [.cnil 3 0, .cgrow 3 1 1], (List.range' 4 41)⟩
def radialR_x3_2 : LExit := ⟨some 0, [.cgrow 3 0 1, .cnil 3 1], (List.range' 4 41)⟩
def radialR_x3_3 : LExit := ⟨some 0, [.cnil 3 0, .cnil 3 1], (List.range' 4 41)⟩
def radialR_sp : List LSpec := [⟨24, 3, [radialR_x3_0, radialR_x3_1, radialR_x3_2, radialR_x3_3]⟩]
def radialR_L3_E (ka : Nat) (ca : List D) (kb : Nat) (cb : List D)  : List AV × AHeap := ([.agg [.dsl 0, .dsl 1], .ptr 2 0, .ptr 3 0, .ptr 4 0, .pure (.int .i64 (0 : Int)), .pure (.tuple #[]), .pure (.tuple #[]), .pure (.tuple #[]), .pure (.tuple #[]), .pure (.tuple #[]), .pure (.tuple #[]), .pure (.tuple #[]), .pure (.tuple #[]), .pure (.tuple #[]), .pure (.tuple #[]), .pure (.tuple #[]), .pure (.tuple #[]), .pure (.tuple #[]), .pure (.tuple #[]), .pure (.tuple #[]), .pure (.tuple #[]), .pure (.tuple #[]), .pure (.tuple #[]), .pure (.tuple #[]), .pure (.tuple #[]), .pure (.tuple #[]), .pure (.tuple #[]), .pure (.tuple #[]), .pure (.tuple #[]), .pure (.tuple #[]), .pure (.tuple #[]), .pure (.tuple #[]), .pure (.tuple #[]), .pure (.tuple #[]), .pure (.tuple #[]), .pure (.tuple #[]), .pure (.tuple #[]), .pure (.tuple #[]), .pure (.tuple #[]), .pure (.tuple #[]), .pure (.tuple #[]), .pure (.tuple #[]), .pure (.tuple #[]), .pure (.tuple #[]), .pure (.tuple #[]), .pure (.tuple #[])], [(4, { cells := [.pure (.slice none 0 0), .pure (.slice none 0 0)], opn := none, kind := .cells }), (3, { cells := [.pure (.slice none 0 0), .pure (.slice none 0 0)], opn := none, kind := .cells }), (2, { cells := [.dsl 0, .dsl 1], opn := none, kind := .cells }), (1, { cells := [], opn := none, kind := .deep kb cb }), (0, { cells := [], opn := none, kind := .deep ka ca })])
def radialR_L3_A : LoopAt := ⟨24, loopAt Try.prog 24 0, 5, 48, 4, noFrame⟩
theorem radialR_L3_ok : (radialR_L3_A).OK := ⟨by show 5 ≤ 48; decide, by show 4 ≤ 5; decide, by kernel_rfl, rfl⟩
def radialR_L3_gs (ka : Nat) (ca : List D) (kb : Nat) (cb : List D)  : Go.Ev.Rd → Option GS
  | .next 0 ds => ghost [.val 4, .cgrow 3 0 1, .cgrow 3 1 1] (List.range' 5 40) (radialR_L3_E ka ca kb cb).1 (radialR_L3_E ka ca kb cb).2 5 ds
  | .next 1 ds => ghost [.val 4, .cnil 3 0, .cgrow 3 1 1] (List.range' 5 40) (radialR_L3_E ka ca kb cb).1 (radialR_L3_E ka ca kb cb).2 5 ds
  | .next 2 ds => ghost [.val 4, .cgrow 3 0 1, .cnil 3 1] (List.range' 5 40) (radialR_L3_E ka ca kb cb).1 (radialR_L3_E ka ca kb cb).2 5 ds
  | .next 3 ds => ghost [.val 4, .cnil 3 0, .cnil 3 1] (List.range' 5 40) (radialR_L3_E ka ca kb cb).1 (radialR_L3_E ka ca kb cb).2 5 ds
  | .out 0 ds => ghost radialR_x3_0.live radialR_x3_0.junk (radialR_L3_E ka ca kb cb).1 (radialR_L3_E ka ca kb cb).2 5 ds
  | .out 1 ds => ghost radialR_x3_1.live radialR_x3_1.junk (radialR_L3_E ka ca kb cb).1 (radialR_L3_E ka ca kb cb).2 5 ds
  | .out 2 ds => ghost radialR_x3_2.live radialR_x3_2.junk (radialR_L3_E ka ca kb cb).1 (radialR_L3_E ka ca kb cb).2 5 ds
  | .out 3 ds => ghost radialR_x3_3.live radialR_x3_3.junk (radialR_L3_E ka ca kb cb).1 (radialR_L3_E ka ca kb cb).2 5 ds
  | _ => none
def radialR_L3_ex : Nat → Option Nat
  | 0 => radialR_x3_0.ex
  | 1 => radialR_x3_1.ex
  | 2 => radialR_x3_2.ex
  | 3 => radialR_x3_3.ex
  | _ => none
def radialR_L3_ax : Go.Ev.Rd → AX
  | .next _ _ => .normal
  | .out j _ => axOf (radialR_L3_ex j)
def radialR_L3_S0 (ka : Nat) (ca : List D) (kb : Nat) (cb : List D)  (ds : List D) : Option Go.Ev.Rd := pullD (α := Int × Nat × (List D) × Nat × (List D)) (some (.tup ds)) (fun d => ((D.vi (D.at d 0)), (D.ln (D.at d 1)), (D.lc (D.at d 1)), (D.ln (D.at d 2)), (D.lc (D.at d 2)))) (fun (s4, s3_0n, s3_0c, s3_1n, s3_1c) => .tup [iD s4, .list s3_0n s3_0c, .list s3_1n s3_1c]) fun (s4, s3_0n, s3_0c, s3_1n, s3_1c) => ((if s4 < (ka : Int) then guardP ((0 : Int) ≤ s4 ∧ s4.toNat < ka) (pullD (α := Int) (readD ca (s4.toNat * 1) 1 false) (fun d => ((D.vi d))) (fun v0 => iD v0) fun v0 => (guardP ((0 : Int) ≤ s4 ∧ s4.toNat < kb) (pullD (α := Int) (readD cb (s4.toNat * 1) 1 false) (fun d => ((D.vi d))) (fun v1 => iD v1) fun v1 => (guardP ((∀ (u : D), u ∈ [dCell (.int .i64 (IntKind.i64.wrap (v0 * IntKind.i64.wrap (v0 - v1))))] → cellD u) ∧ s3_0n * 1 ≤ s3_0c.length ∧ (s3_0n + (0 + 1)) * 8 ≤ 140737488355328 ∧ s3_0n + (0 + 1) ≤ 4611686018427387904) (guardP ((∀ (u : D), u ∈ [dCell (.int .i64 (IntKind.i64.wrap (IntKind.i64.wrap ((0 : Int) - v1) * IntKind.i64.wrap (v0 - v1))))] → cellD u) ∧ s3_1n * 1 ≤ s3_1c.length ∧ (s3_1n + (0 + 1)) * 8 ≤ 140737488355328 ∧ s3_1n + (0 + 1) ≤ 4611686018427387904) (some (.next 0 [iD (IntKind.i64.wrap (s4 + (1 : Int))), .list (s3_0n + (0 + 1)) (List.append (List.take (s3_0n * 1) s3_0c) [dCell (.int .i64 (IntKind.i64.wrap (v0 * IntKind.i64.wrap (v0 - v1))))]), .list (s3_1n + (0 + 1)) (List.append (List.take (s3_1n * 1) s3_1c) [dCell (.int .i64 (IntKind.i64.wrap (IntKind.i64.wrap ((0 : Int) - v1) * IntKind.i64.wrap (v0 - v1))))])]))))))) else some (.out 0 [.list s3_0n s3_0c, .list s3_1n s3_1c])))
def radialR_L3_S1 (ka : Nat) (ca : List D) (kb : Nat) (cb : List D)  (ds : List D) : Option Go.Ev.Rd := pullD (α := Int × Nat × (List D)) (some (.tup ds)) (fun d => ((D.vi (D.at d 0)), (D.ln (D.at d 2)), (D.lc (D.at d 2)))) (fun (s4, s3_1n, s3_1c) => .tup [iD s4, .one (.tuple #[]), .list s3_1n s3_1c]) fun (s4, s3_1n, s3_1c) => ((if s4 < (ka : Int) then guardP ((0 : Int) ≤ s4 ∧ s4.toNat < ka) (pullD (α := Int) (readD ca (s4.toNat * 1) 1 false) (fun d => ((D.vi d))) (fun v0 => iD v0) fun v0 => (guardP ((0 : Int) ≤ s4 ∧ s4.toNat < kb) (pullD (α := Int) (readD cb (s4.toNat * 1) 1 false) (fun d => ((D.vi d))) (fun v1 => iD v1) fun v1 => (guardP ((∀ (u : D), u ∈ [dCell (.int .i64 (IntKind.i64.wrap (IntKind.i64.wrap ((0 : Int) - v1) * IntKind.i64.wrap (v0 - v1))))] → cellD u) ∧ s3_1n * 1 ≤ s3_1c.length ∧ (s3_1n + (0 + 1)) * 8 ≤ 140737488355328 ∧ s3_1n + (0 + 1) ≤ 4611686018427387904) (some (.next 0 [iD (IntKind.i64.wrap (s4 + (1 : Int))), .list 1 [iD (IntKind.i64.wrap (v0 * IntKind.i64.wrap (v0 - v1)))], .list (s3_1n + (0 + 1)) (List.append (List.take (s3_1n * 1) s3_1c) [dCell (.int .i64 (IntKind.i64.wrap (IntKind.i64.wrap ((0 : Int) - v1) * IntKind.i64.wrap (v0 - v1))))])])))))) else some (.out 1 [.one (.tuple #[]), .list s3_1n s3_1c])))
def radialR_L3_S2 (ka : Nat) (ca : List D) (kb : Nat) (cb : List D)  (ds : List D) : Option Go.Ev.Rd := pullD (α := Int × Nat × (List D)) (some (.tup ds)) (fun d => ((D.vi (D.at d 0)), (D.ln (D.at d 1)), (D.lc (D.at d 1)))) (fun (s4, s3_0n, s3_0c) => .tup [iD s4, .list s3_0n s3_0c, .one (.tuple #[])]) fun (s4, s3_0n, s3_0c) => ((if s4 < (ka : Int) then guardP ((0 : Int) ≤ s4 ∧ s4.toNat < ka) (pullD (α := Int) (readD ca (s4.toNat * 1) 1 false) (fun d => ((D.vi d))) (fun v0 => iD v0) fun v0 => (guardP ((0 : Int) ≤ s4 ∧ s4.toNat < kb) (pullD (α := Int) (readD cb (s4.toNat * 1) 1 false) (fun d => ((D.vi d))) (fun v1 => iD v1) fun v1 => (guardP ((∀ (u : D), u ∈ [dCell (.int .i64 (IntKind.i64.wrap (v0 * IntKind.i64.wrap (v0 - v1))))] → cellD u) ∧ s3_0n * 1 ≤ s3_0c.length ∧ (s3_0n + (0 + 1)) * 8 ≤ 140737488355328 ∧ s3_0n + (0 + 1) ≤ 4611686018427387904) (some (.next 0 [iD (IntKind.i64.wrap (s4 + (1 : Int))), .list (s3_0n + (0 + 1)) (List.append (List.take (s3_0n * 1) s3_0c) [dCell (.int .i64 (IntKind.i64.wrap (v0 * IntKind.i64.wrap (v0 - v1))))]), .list 1 [iD (IntKind.i64.wrap (IntKind.i64.wrap ((0 : Int) - v1) * IntKind.i64.wrap (v0 - v1)))]])))))) else some (.out 2 [.list s3_0n s3_0c, .one (.tuple #[])])))
def radialR_L3_S3 (ka : Nat) (ca : List D) (kb : Nat) (cb : List D)  (ds : List D) : Option Go.Ev.Rd := pullD (α := Int) (some (.tup ds)) (fun d => ((D.vi (D.at d 0)))) (fun s4 => .tup [iD s4, .one (.tuple #[]), .one (.tuple #[])]) fun s4 => ((if s4 < (ka : Int) then guardP ((0 : Int) ≤ s4 ∧ s4.toNat < ka) (pullD (α := Int) (readD ca (s4.toNat * 1) 1 false) (fun d => ((D.vi d))) (fun v0 => iD v0) fun v0 => (guardP ((0 : Int) ≤ s4 ∧ s4.toNat < kb) (pullD (α := Int) (readD cb (s4.toNat * 1) 1 false) (fun d => ((D.vi d))) (fun v1 => iD v1) fun v1 => (some (.next 0 [iD (IntKind.i64.wrap (s4 + (1 : Int))), .list 1 [iD (IntKind.i64.wrap (v0 * IntKind.i64.wrap (v0 - v1)))], .list 1 [iD (IntKind.i64.wrap (IntKind.i64.wrap ((0 : Int) - v1) * IntKind.i64.wrap (v0 - v1)))]]))))) else some (.out 3 [.one (.tuple #[]), .one (.tuple #[])])))
def radialR_L3_S (ka : Nat) (ca : List D) (kb : Nat) (cb : List D)  : Go.Ev.Rd → Option Go.Ev.Rd
  | .next 0 ds => radialR_L3_S0 ka ca kb cb ds
  | .next 1 ds => radialR_L3_S1 ka ca kb cb ds
  | .next 2 ds => radialR_L3_S2 ka ca kb cb ds
  | .next 3 ds => radialR_L3_S3 ka ca kb cb ds
  | _ => none
theorem radialR_L3_S_ok (ka : Nat) (ca : List D) (kb : Nat) (cb : List D)  : ∀ s_ t_, radialR_L3_S ka ca kb cb s_ = some t_ → Step (ctx [24] radialR_sp) Tabs radialR_L3_A (stateOf (radialR_L3_gs ka ca kb cb s_)) (stateOf (radialR_L3_gs ka ca kb cb t_)) (radialR_L3_ax t_) ∧ EndOK radialR_L3_A.nx radialR_L3_A.low (radialR_L3_gs ka ca kb cb) t_
  | .next 0 ds, t_, h => by
    have h_ : radialR_L3_S0 ka ca kb cb ds = some t_ := h
    clear h
    unfold radialR_L3_S0 at h_
    obtain ⟨⟨s4, s3_0n, s3_0c, s3_1n, s3_1c⟩, e0, h0⟩ := pullD_elim h_
    clear h_
    obtain rfl := tup_inj e0
    by_cases b1_ : s4 < (ka : Int)
    · have h2_ := (if_pos b1_).symm.trans h0
      obtain ⟨f3_, h4_⟩ := guardP_elim h2_
      obtain ⟨v0, f5_, h6_⟩ := pullD_elim h4_
      replace f5_ := readD_elim f5_
      obtain ⟨f7_, h8_⟩ := guardP_elim h6_
      obtain ⟨v1, f9_, h10_⟩ := pullD_elim h8_
      replace f9_ := readD_elim f9_
      obtain ⟨f11_, h12_⟩ := guardP_elim h10_
      obtain ⟨f13_, h14_⟩ := guardP_elim h12_
      obtain rfl := Option.some.inj h14_
      exact ⟨step_pc 3000 (bT 1 []) [iD v0, iD v1] [c_d b1_, c_f f3_, c_f f5_, c_f f7_, c_f f9_, c_f f11_, c_f f13_] [] _ rfl (by kernel_rfl) (by kernel_rfl) (by kernel_rfl) (by kernel_rfl) (by kernel_rfl) (by kernel_rfl), trivial⟩
    have h2_ := (if_neg b1_).symm.trans h0
    obtain rfl := Option.some.inj h2_
    exact ⟨step_pc 3000 (bF 1 []) [] [c_n b1_] [] _ rfl (by kernel_rfl) (by kernel_rfl) (by kernel_rfl) (by kernel_rfl) (by kernel_rfl) (by kernel_rfl), by kernel_rfl, by kernel_rfl⟩
  | .next 1 ds, t_, h => by
    have h_ : radialR_L3_S1 ka ca kb cb ds = some t_ := h
    clear h
    unfold radialR_L3_S1 at h_
    obtain ⟨⟨s4, s3_1n, s3_1c⟩, e0, h0⟩ := pullD_elim h_
    clear h_
    obtain rfl := tup_inj e0
    by_cases b1_ : s4 < (ka : Int)
    · have h2_ := (if_pos b1_).symm.trans h0
      obtain ⟨f3_, h4_⟩ := guardP_elim h2_
      obtain ⟨v0, f5_, h6_⟩ := pullD_elim h4_
      replace f5_ := readD_elim f5_
      obtain ⟨f7_, h8_⟩ := guardP_elim h6_
      obtain ⟨v1, f9_, h10_⟩ := pullD_elim h8_
      replace f9_ := readD_elim f9_
      obtain ⟨f11_, h12_⟩ := guardP_elim h10_
      obtain rfl := Option.some.inj h12_
      exact ⟨step_pc 3000 (bT 1 []) [iD v0, iD v1] [c_d b1_, c_f f3_, c_f f5_, c_f f7_, c_f f9_, ⟨fact (0 < 0 + 1 ∧ (0 + 1) * 8 ≤ 140737488355328 ∧ 0 + 1 ≤ 4611686018427387904), true, fact_mk (by decide)⟩, c_f f11_] [] _ rfl (by kernel_rfl) (by kernel_rfl) (by kernel_rfl) (by kernel_rfl) (by kernel_rfl) (by kernel_rfl), trivial⟩
    have h2_ := (if_neg b1_).symm.trans h0
    obtain rfl := Option.some.inj h2_
    exact ⟨step_pc 3000 (bF 1 []) [] [c_n b1_] [] _ rfl (by kernel_rfl) (by kernel_rfl) (by kernel_rfl) (by kernel_rfl) (by kernel_rfl) (by kernel_rfl), by kernel_rfl, by kernel_rfl⟩
  | .next 2 ds, t_, h => by
    have h_ : radialR_L3_S2 ka ca kb cb ds = some t_ := h
    clear h
    unfold radialR_L3_S2 at h_
    obtain ⟨⟨s4, s3_0n, s3_0c⟩, e0, h0⟩ := pullD_elim h_
    clear h_
    obtain rfl := tup_inj e0
    by_cases b1_ : s4 < (ka : Int)
    · have h2_ := (if_pos b1_).symm.trans h0
      obtain ⟨f3_, h4_⟩ := guardP_elim h2_
      obtain ⟨v0, f5_, h6_⟩ := pullD_elim h4_
      replace f5_ := readD_elim f5_
      obtain ⟨f7_, h8_⟩ := guardP_elim h6_
      obtain ⟨v1, f9_, h10_⟩ := pullD_elim h8_
      replace f9_ := readD_elim f9_
      obtain ⟨f11_, h12_⟩ := guardP_elim h10_
      obtain rfl := Option.some.inj h12_
      exact ⟨step_pc 3000 (bT 1 []) [iD v0, iD v1] [c_d b1_, c_f f3_, c_f f5_, c_f f7_, c_f f9_, c_f f11_, ⟨fact (0 < 0 + 1 ∧ (0 + 1) * 8 ≤ 140737488355328 ∧ 0 + 1 ≤ 4611686018427387904), true, fact_mk (by decide)⟩] [] _ rfl (by kernel_rfl) (by kernel_rfl) (by kernel_rfl) (by kernel_rfl) (by kernel_rfl) (by kernel_rfl), trivial⟩
    have h2_ := (if_neg b1_).symm.trans h0
    obtain rfl := Option.some.inj h2_
    exact ⟨step_pc 3000 (bF 1 []) [] [c_n b1_] [] _ rfl (by kernel_rfl) (by kernel_rfl) (by kernel_rfl) (by kernel_rfl) (by kernel_rfl) (by kernel_rfl), by kernel_rfl, by kernel_rfl⟩
  | .next 3 ds, t_, h => by
    have h_ : radialR_L3_S3 ka ca kb cb ds = some t_ := h
    clear h
    unfold radialR_L3_S3 at h_
    obtain ⟨s4, e0, h0⟩ := pullD_elim h_
    clear h_
    obtain rfl := tup_inj e0
    by_cases b1_ : s4 < (ka : Int)
    · have h2_ := (if_pos b1_).symm.trans h0
      obtain ⟨f3_, h4_⟩ := guardP_elim h2_
      obtain ⟨v0, f5_, h6_⟩ := pullD_elim h4_
      replace f5_ := readD_elim f5_
      obtain ⟨f7_, h8_⟩ := guardP_elim h6_
      obtain ⟨v1, f9_, h10_⟩ := pullD_elim h8_
      replace f9_ := readD_elim f9_
      obtain rfl := Option.some.inj h10_
      exact ⟨step_pc 3000 (bT 1 []) [iD v0, iD v1] [c_d b1_, c_f f3_, c_f f5_, c_f f7_, c_f f9_, ⟨fact (0 < 0 + 1 ∧ (0 + 1) * 8 ≤ 140737488355328 ∧ 0 + 1 ≤ 4611686018427387904), true, fact_mk (by decide)⟩, ⟨fact (0 < 0 + 1 ∧ (0 + 1) * 8 ≤ 140737488355328 ∧ 0 + 1 ≤ 4611686018427387904), true, fact_mk (by decide)⟩] [] _ rfl (by kernel_rfl) (by kernel_rfl) (by kernel_rfl) (by kernel_rfl) (by kernel_rfl) (by kernel_rfl), trivial⟩
    have h2_ := (if_neg b1_).symm.trans h0
    obtain rfl := Option.some.inj h2_
    exact ⟨step_pc 3000 (bF 1 []) [] [c_n b1_] [] _ rfl (by kernel_rfl) (by kernel_rfl) (by kernel_rfl) (by kernel_rfl) (by kernel_rfl) (by kernel_rfl), by kernel_rfl, by kernel_rfl⟩
  | .next (_ + 4) _, _, h => by cases h
  | .out _ _, _, h => by cases h
theorem radialR_L3_go (ka : Nat) (ca : List D) (kb : Nat) (cb : List D)  {q : Nat} {ds : List D} {j : Nat} {es : List D} (h : runR (radialR_L3_S ka ca kb cb) (.next q ds) = some (.out j es)) : Runs (ctx [24] radialR_sp) Tabs radialR_L3_A (stateOf (radialR_L3_gs ka ca kb cb (.next q ds))) (stateOf (radialR_L3_gs ka ca kb cb (.out j es))) (radialR_L3_ax (.out j es)) ∧ (nxtOf (radialR_L3_gs ka ca kb cb (.out j es)), lowGS (radialR_L3_gs ka ca kb cb (.out j es))) = (radialR_L3_A.nx, radialR_L3_A.low) :=
  runs_of' (good true _ _) radialR_L3_ok (ax := radialR_L3_ax) (fun _ _ => rfl) (fun _ _ => axOf_end _) (radialR_L3_S_ok ka ca kb cb) h
theorem radialR_L3_in0 (ka : Nat) (ca : List D) (kb : Nat) (cb : List D)  {es : List D} (h : runR (radialR_L3_S ka ca kb cb) (.next 3 [iD ((0 : Int)), .one (.tuple #[]), .one (.tuple #[])]) = some (.out 0 es)) : LoopC (loopAt Try.prog 24 0) (radialR_L3_E ka ca kb cb) 5 noFrame radialR_x3_0 es :=
  have r := radialR_L3_go ka ca kb cb h
  loopin_as rfl (loop_in (l := radialR_L3_A) (E := (radialR_L3_E ka ca kb cb)) (S := stateOf (radialR_L3_gs ka ca kb cb (.next 3 [iD ((0 : Int)), .one (.tuple #[]), .one (.tuple #[])]))) (ns := nsOf (radialR_L3_gs ka ca kb cb (.next 3 [iD ((0 : Int)), .one (.tuple #[]), .one (.tuple #[])]))) radialR_L3_ok r.1 r.2 (by kernel_rfl) (by kernel_rfl) (by kernel_rfl) (by kernel_rfl))
theorem radialR_L3_in1 (ka : Nat) (ca : List D) (kb : Nat) (cb : List D)  {es : List D} (h : runR (radialR_L3_S ka ca kb cb) (.next 3 [iD ((0 : Int)), .one (.tuple #[]), .one (.tuple #[])]) = some (.out 1 es)) : LoopC (loopAt Try.prog 24 0) (radialR_L3_E ka ca kb cb) 5 noFrame radialR_x3_1 es :=
  have r := radialR_L3_go ka ca kb cb h
  loopin_as rfl (loop_in (l := radialR_L3_A) (E := (radialR_L3_E ka ca kb cb)) (S := stateOf (radialR_L3_gs ka ca kb cb (.next 3 [iD ((0 : Int)), .one (.tuple #[]), .one (.tuple #[])]))) (ns := nsOf (radialR_L3_gs ka ca kb cb (.next 3 [iD ((0 : Int)), .one (.tuple #[]), .one (.tuple #[])]))) radialR_L3_ok r.1 r.2 (by kernel_rfl) (by kernel_rfl) (by kernel_rfl) (by kernel_rfl))
theorem radialR_L3_in2 (ka : Nat) (ca : List D) (kb : Nat) (cb : List D)  {es : List D} (h : runR (radialR_L3_S ka ca kb cb) (.next 3 [iD ((0 : Int)), .one (.tuple #[]), .one (.tuple #[])]) = some (.out 2 es)) : LoopC (loopAt Try.prog 24 0) (radialR_L3_E ka ca kb cb) 5 noFrame radialR_x3_2 es :=
  have r := radialR_L3_go ka ca kb cb h
  loopin_as rfl (loop_in (l := radialR_L3_A) (E := (radialR_L3_E ka ca kb cb)) (S := stateOf (radialR_L3_gs ka ca kb cb (.next 3 [iD ((0 : Int)), .one (.tuple #[]), .one (.tuple #[])]))) (ns := nsOf (radialR_L3_gs ka ca kb cb (.next 3 [iD ((0 : Int)), .one (.tuple #[]), .one (.tuple #[])]))) radialR_L3_ok r.1 r.2 (by kernel_rfl) (by kernel_rfl) (by kernel_rfl) (by kernel_rfl))
theorem radialR_L3_in3 (ka : Nat) (ca : List D) (kb : Nat) (cb : List D)  {es : List D} (h : runR (radialR_L3_S ka ca kb cb) (.next 3 [iD ((0 : Int)), .one (.tuple #[]), .one (.tuple #[])]) = some (.out 3 es)) : LoopC (loopAt Try.prog 24 0) (radialR_L3_E ka ca kb cb) 5 noFrame radialR_x3_3 es :=
  have r := radialR_L3_go ka ca kb cb h
  loopin_as rfl (loop_in (l := radialR_L3_A) (E := (radialR_L3_E ka ca kb cb)) (S := stateOf (radialR_L3_gs ka ca kb cb (.next 3 [iD ((0 : Int)), .one (.tuple #[]), .one (.tuple #[])]))) (ns := nsOf (radialR_L3_gs ka ca kb cb (.next 3 [iD ((0 : Int)), .one (.tuple #[]), .one (.tuple #[])]))) radialR_L3_ok r.1 r.2 (by kernel_rfl) (by kernel_rfl) (by kernel_rfl) (by kernel_rfl))
def radialR_M (ka : Nat) (ca : List D) (kb : Nat) (cb : List D) : Option D := bindL (runR (radialR_L3_S ka ca kb cb) (.next 3 [iD ((0 : Int)), .one (.tuple #[]), .one (.tuple #[])])) fun j ds => (if j = 0 then pullD (α := Nat × (List D) × Nat × (List D)) (some (.tup ds)) (fun d => ((D.ln (D.at d 0)), (D.lc (D.at d 0)), (D.ln (D.at d 1)), (D.lc (D.at d 1)))) (fun (k0, c1, k2, c3) => .tup [.list k0 c1, .list k2 c3]) fun (k0, c1, k2, c3) => (guardP ((0 + k0) * 1 ≤ c1.length ∧ 0 < 1) (guardP ((0 + k2) * 1 ≤ c3.length ∧ 0 < 1) (some (.agg [.list k0 c1, .list k2 c3])))) else if j = 1 then pullD (α := Nat × (List D)) (some (.tup ds)) (fun d => ((D.ln (D.at d 1)), (D.lc (D.at d 1)))) (fun (k4, c5) => .tup [.one (.tuple #[]), .list k4 c5]) fun (k4, c5) => (guardP ((0 + k4) * 1 ≤ c5.length ∧ 0 < 1) (some (.agg [.list 0 [], .list k4 c5]))) else if j = 2 then pullD (α := Nat × (List D)) (some (.tup ds)) (fun d => ((D.ln (D.at d 0)), (D.lc (D.at d 0)))) (fun (k6, c7) => .tup [.list k6 c7, .one (.tuple #[])]) fun (k6, c7) => (guardP ((0 + k6) * 1 ≤ c7.length ∧ 0 < 1) (some (.agg [.list k6 c7, .list 0 []]))) else if j = 3 then pullD (some (.tup ds)) (fun _ => ()) (fun _ => .tup [.one (.tuple #[]), .one (.tuple #[])]) fun _ => (some (.agg [.list 0 [], .list 0 []])) else none)
theorem radialR_M_ok (ka : Nat) (ca : List D) (kb : Nat) (cb : List D) {r : D} (h : radialR_M ka ca kb cb = some r) : Con 24 [.agg [.list ka ca, .list kb cb]] r := by
  unfold radialR_M at h
  obtain ⟨j, ds, e1_, h2_⟩ := bindL_elim h
  by_cases j3_ : j = 0
  · have h6_ := (if_pos j3_).symm.trans h2_
    clear h2_
    subst j3_
    obtain ⟨⟨k0, c1, k2, c3⟩, e4_, h7_⟩ := pullD_elim h6_
    clear h6_
    obtain rfl := tup_inj e4_
    have k5_ := radialR_L3_in0 ka ca kb cb e1_
    obtain ⟨f8_, h9_⟩ := guardP_elim h7_
    obtain ⟨f10_, h11_⟩ := guardP_elim h9_
    obtain rfl := Option.some.inj h11_
    exact con_pc (op := true) (I := [24]) (sp := radialR_sp) 3000 [] [.tup [iD (Int.ofNat 0), .list k0 c1, .list k2 c3]] [c_f f8_, c_f f10_] [k_l k5_ [] [.tup [iD (Int.ofNat 0), .list k0 c1, .list k2 c3]] []] (by kernel_rfl)
  have h12_ := (if_neg j3_).symm.trans h2_
  clear h2_
  by_cases j13_ : j = 1
  · have h16_ := (if_pos j13_).symm.trans h12_
    clear h12_
    subst j13_
    obtain ⟨⟨k4, c5⟩, e14_, h17_⟩ := pullD_elim h16_
    clear h16_
    obtain rfl := tup_inj e14_
    have k15_ := radialR_L3_in1 ka ca kb cb e1_
    obtain ⟨f18_, h19_⟩ := guardP_elim h17_
    obtain rfl := Option.some.inj h19_
    exact con_pc (op := true) (I := [24]) (sp := radialR_sp) 3000 [] [.tup [iD (Int.ofNat 1), .one (.tuple #[]), .list k4 c5]] [c_f f18_] [k_l k15_ [] [.tup [iD (Int.ofNat 1), .one (.tuple #[]), .list k4 c5]] []] (by kernel_rfl)
  have h20_ := (if_neg j13_).symm.trans h12_
  clear h12_
  by_cases j21_ : j = 2
  · have h24_ := (if_pos j21_).symm.trans h20_
    clear h20_
    subst j21_
    obtain ⟨⟨k6, c7⟩, e22_, h25_⟩ := pullD_elim h24_
    clear h24_
    obtain rfl := tup_inj e22_
    have k23_ := radialR_L3_in2 ka ca kb cb e1_
    obtain ⟨f26_, h27_⟩ := guardP_elim h25_
    obtain rfl := Option.some.inj h27_
    exact con_pc (op := true) (I := [24]) (sp := radialR_sp) 3000 [] [.tup [iD (Int.ofNat 2), .list k6 c7, .one (.tuple #[])]] [c_f f26_] [k_l k23_ [] [.tup [iD (Int.ofNat 2), .list k6 c7, .one (.tuple #[])]] []] (by kernel_rfl)
  have h28_ := (if_neg j21_).symm.trans h20_
  clear h20_
  by_cases j29_ : j = 3
  · have h32_ := (if_pos j29_).symm.trans h28_
    clear h28_
    subst j29_
    obtain ⟨⟨⟩, e30_, h33_⟩ := pullD_elim h32_
    clear h32_
    obtain rfl := tup_inj e30_
    have k31_ := radialR_L3_in3 ka ca kb cb e1_
    obtain rfl := Option.some.inj h33_
    exact con_pc (op := true) (I := [24]) (sp := radialR_sp) 3000 [] [.tup [iD (Int.ofNat 3), .one (.tuple #[]), .one (.tuple #[])]] [] [k_l k31_ [] [.tup [iD (Int.ofNat 3), .one (.tuple #[]), .one (.tuple #[])]] []] (by kernel_rfl)
  have h34_ := (if_neg j29_).symm.trans h28_
  clear h28_
  cases h34_
def m_24 (ds : List D) : Option D := pullD (α := Nat × (List D) × Nat × (List D)) (some (.tup ds)) (fun d => ((D.ln (D.at (D.at d 0) 0)), (D.lc (D.at (D.at d 0) 0)), (D.ln (D.at (D.at d 0) 1)), (D.lc (D.at (D.at d 0) 1)))) (fun (ka, ca, kb, cb) => .tup [.agg [.list ka ca, .list kb cb]]) fun (ka, ca, kb, cb) => radialR_M ka ca kb cb
theorem m_24_ok {ds : List D} {r : D} (h : m_24 ds = some r) : Con 24 ds r := by
  unfold m_24 at h
  obtain ⟨⟨ka, ca, kb, cb⟩, e0, h0⟩ := pullD_elim h
  obtain rfl := tup_inj e0
  exact radialR_M_ok ka ca kb cb h0
theorem m_24_eq (ka : Nat) (ca : List D) (kb : Nat) (cb : List D) : m_24 [.agg [.list ka ca, .list kb cb]] = radialR_M ka ca kb cb := pullD_some (ka, ca, kb, cb) rfl rfl
def unitR0_x13_0 : LExit := ⟨some 1, [.val 6], (7 :: (List.range' 29 13))⟩
def unitR0_sp : List LSpec := [⟨26, 13, [unitR0_x13_0]⟩]
def unitR0_L13_E (ka : Nat) (ca : List D) (kb : Nat) (cb : List D) (x0 : Nat) (x1 : List D) (x2 : Nat) (x3 : List D) : List AV × AHeap := ([.agg [.dsl 0, .dsl 1], .pure (.int .i64 (0 : Int)), .ptr 2 0, .pure (.tuple #[]), .pure (.int .i64 (0 : Int)), .dsl 3, .pure (.int .i64 (0 : Int)), .pure (.int .i64 (0 : Int)), .pure (.int .i64 (0 : Int)), .pure (.bool true), .pure (.bool true), .agg [.dsl 0, .dsl 1], .agg [.dsl 3, .dsl 4], .dsl 3, .pure (.tuple #[]), .pure (.tuple #[]), .pure (.tuple #[]), .pure (.tuple #[]), .pure (.tuple #[]), .pure (.tuple #[]), .pure (.tuple #[]), .pure (.tuple #[]), .pure (.tuple #[]), .pure (.tuple #[]), .pure (.tuple #[]), .pure (.tuple #[]), .pure (.tuple #[]), .pure (.tuple #[]), .pure (.tuple #[]), .pure (.tuple #[]), .pure (.tuple #[]), .pure (.tuple #[]), .pure (.tuple #[]), .pure (.tuple #[]), .pure (.tuple #[]), .pure (.tuple #[]), .pure (.tuple #[]), .pure (.tuple #[]), .pure (.tuple #[]), .pure (.tuple #[]), .pure (.tuple #[]), .pure (.tuple #[]), .pure (.tuple #[])], [(4, { cells := [], opn := none, kind := .deep x2 x3 }), (3, { cells := [], opn := none, kind := .deep x0 x1 }), (2, { cells := [.dsl 0, .dsl 1], opn := none, kind := .cells }), (1, { cells := [], opn := none, kind := .deep kb cb }), (0, { cells := [], opn := none, kind := .deep ka ca })])
def unitR0_L13_A : LoopAt := ⟨26, loopAt Try.prog 26 0, 5, 20, 5, noFrame⟩
theorem unitR0_L13_ok : (unitR0_L13_A).OK := ⟨by show 5 ≤ 20; decide, by show 5 ≤ 5; decide, by kernel_rfl, rfl⟩
def unitR0_L13_gs (ka : Nat) (ca : List D) (kb : Nat) (cb : List D) (x0 : Nat) (x1 : List D) (x2 : Nat) (x3 : List D) : Go.Ev.Rd → Option GS
  | .next 0 ds => ghost [.val 6, .val 7] (List.range' 29 13) (unitR0_L13_E ka ca kb cb x0 x1 x2 x3).1 (unitR0_L13_E ka ca kb cb x0 x1 x2 x3).2 5 ds
  | .out 0 ds => ghost unitR0_x13_0.live unitR0_x13_0.junk (unitR0_L13_E ka ca kb cb x0 x1 x2 x3).1 (unitR0_L13_E ka ca kb cb x0 x1 x2 x3).2 5 ds
  | _ => none
def unitR0_L13_ex : Nat → Option Nat
  | 0 => unitR0_x13_0.ex
  | _ => none
def unitR0_L13_ax : Go.Ev.Rd → AX
  | .next _ _ => .normal
  | .out j _ => axOf (unitR0_L13_ex j)
def unitR0_L13_S0 (ka : Nat) (ca : List D) (kb : Nat) (cb : List D) (x0 : Nat) (x1 : List D) (x2 : Nat) (x3 : List D) (ds : List D) : Option Go.Ev.Rd := pullD (α := Int × Int) (some (.tup ds)) (fun d => ((D.vi (D.at d 0)), (D.vi (D.at d 1)))) (fun (s6, s7) => .tup [iD s6, iD s7]) fun (s6, s7) => ((if s7 < (x0 : Int) then guardP ((0 : Int) ≤ s7 ∧ s7.toNat < x0) (pullD (α := Int) (readD x1 (s7.toNat * 1) 1 false) (fun d => ((D.vi d))) (fun v0 => iD v0) fun v0 => (pullD (α := Int) (m_55 [iD v0]) (fun d => ((D.vi d))) (fun r1 => iD r1) fun r1 => (some (.next 0 [iD (if r1 > s6 then r1 else s6), iD (IntKind.i64.wrap (s7 + (1 : Int)))])))) else some (.out 0 [iD s6])))
def unitR0_L13_S (ka : Nat) (ca : List D) (kb : Nat) (cb : List D) (x0 : Nat) (x1 : List D) (x2 : Nat) (x3 : List D) : Go.Ev.Rd → Option Go.Ev.Rd
  | .next 0 ds => unitR0_L13_S0 ka ca kb cb x0 x1 x2 x3 ds
  | _ => none
theorem unitR0_L13_S_ok (ka : Nat) (ca : List D) (kb : Nat) (cb : List D) (x0 : Nat) (x1 : List D) (x2 : Nat) (x3 : List D) : ∀ s_ t_, unitR0_L13_S ka ca kb cb x0 x1 x2 x3 s_ = some t_ → Step (ctx [26] unitR0_sp) Tabs unitR0_L13_A (stateOf (unitR0_L13_gs ka ca kb cb x0 x1 x2 x3 s_)) (stateOf (unitR0_L13_gs ka ca kb cb x0 x1 x2 x3 t_)) (unitR0_L13_ax t_) ∧ EndOK unitR0_L13_A.nx unitR0_L13_A.low (unitR0_L13_gs ka ca kb cb x0 x1 x2 x3) t_
  | .next 0 ds, t_, h => by
    have h_ : unitR0_L13_S0 ka ca kb cb x0 x1 x2 x3 ds = some t_ := h
    clear h
    unfold unitR0_L13_S0 at h_
    obtain ⟨⟨s6, s7⟩, e0, h0⟩ := pullD_elim h_
    clear h_
    obtain rfl := tup_inj e0
    by_cases b1_ : s7 < (x0 : Int)
    · have h2_ := (if_pos b1_).symm.trans h0
      obtain ⟨f3_, h4_⟩ := guardP_elim h2_
      obtain ⟨v0, f5_, h6_⟩ := pullD_elim h4_
      replace f5_ := readD_elim f5_
      obtain ⟨r1, f7_, h8_⟩ := pullD_elim h6_
      replace f7_ := m_55_ok f7_
      obtain rfl := Option.some.inj h8_
      exact ⟨step_pc 3000 (bT 1 []) [iD v0, iD r1] [c_d b1_, c_f f3_, c_f f5_] [k_c f7_] _ rfl (by kernel_rfl) (by kernel_rfl) (by kernel_rfl) (by kernel_rfl) (by kernel_rfl) (by kernel_rfl), trivial⟩
    have h2_ := (if_neg b1_).symm.trans h0
    obtain rfl := Option.some.inj h2_
    exact ⟨step_pc 3000 (bF 1 []) [] [c_n b1_] [] _ rfl (by kernel_rfl) (by kernel_rfl) (by kernel_rfl) (by kernel_rfl) (by kernel_rfl) (by kernel_rfl), by kernel_rfl, by kernel_rfl⟩
  | .next (_ + 1) _, _, h => by cases h
  | .out _ _, _, h => by cases h
theorem unitR0_L13_go (ka : Nat) (ca : List D) (kb : Nat) (cb : List D) (x0 : Nat) (x1 : List D) (x2 : Nat) (x3 : List D) {q : Nat} {ds : List D} {j : Nat} {es : List D} (h : runR (unitR0_L13_S ka ca kb cb x0 x1 x2 x3) (.next q ds) = some (.out j es)) : Runs (ctx [26] unitR0_sp) Tabs unitR0_L13_A (stateOf (unitR0_L13_gs ka ca kb cb x0 x1 x2 x3 (.next q ds))) (stateOf (unitR0_L13_gs ka ca kb cb x0 x1 x2 x3 (.out j es))) (unitR0_L13_ax (.out j es)) ∧ (nxtOf (unitR0_L13_gs ka ca kb cb x0 x1 x2 x3 (.out j es)), lowGS (unitR0_L13_gs ka ca kb cb x0 x1 x2 x3 (.out j es))) = (unitR0_L13_A.nx, unitR0_L13_A.low) :=
  runs_of' (good true _ _) unitR0_L13_ok (ax := unitR0_L13_ax) (fun _ _ => rfl) (fun _ _ => axOf_end _) (unitR0_L13_S_ok ka ca kb cb x0 x1 x2 x3) h
theorem unitR0_L13_in0 (ka : Nat) (ca : List D) (kb : Nat) (cb : List D) (x0 : Nat) (x1 : List D) (x2 : Nat) (x3 : List D) {es : List D} (h : runR (unitR0_L13_S ka ca kb cb x0 x1 x2 x3) (.next 0 [iD ((0 : Int)), iD ((0 : Int))]) = some (.out 0 es)) : LoopC (loopAt Try.prog 26 0) (unitR0_L13_E ka ca kb cb x0 x1 x2 x3) 5 noFrame unitR0_x13_0 es :=
  have r := unitR0_L13_go ka ca kb cb x0 x1 x2 x3 h
  loopin_as rfl (loop_in (l := unitR0_L13_A) (E := (unitR0_L13_E ka ca kb cb x0 x1 x2 x3)) (S := stateOf (unitR0_L13_gs ka ca kb cb x0 x1 x2 x3 (.next 0 [iD ((0 : Int)), iD ((0 : Int))]))) (ns := nsOf (unitR0_L13_gs ka ca kb cb x0 x1 x2 x3 (.next 0 [iD ((0 : Int)), iD ((0 : Int))]))) unitR0_L13_ok r.1 r.2 (by kernel_rfl) (by kernel_rfl) (by kernel_rfl) (by kernel_rfl))
def unitR0_M (ka : Nat) (ca : List D) (kb : Nat) (cb : List D) : Option D := pullD (α := Nat × (List D) × Nat × (List D)) (m_23 [.agg [.list ka ca, .list kb cb]]) (fun d => ((D.ln (D.at d 0)), (D.lc (D.at d 0)), (D.ln (D.at d 1)), (D.lc (D.at d 1)))) (fun (k0, c1, k2, c3) => .agg [.list k0 c1, .list k2 c3]) fun (k0, c1, k2, c3) => (bindL (runR (unitR0_L13_S ka ca kb cb k0 c1 k2 c3) (.next 0 [iD ((0 : Int)), iD ((0 : Int))])) fun j ds => (if j = 0 then pullD (α := Int) (some (.tup ds)) (fun d => ((D.vi (D.at d 0)))) (fun l4 => .tup [iD l4]) fun l4 => (some (iD l4)) else none))
theorem unitR0_M_ok (ka : Nat) (ca : List D) (kb : Nat) (cb : List D) {r : D} (h : unitR0_M ka ca kb cb = some r) : Con 26 [.agg [.list ka ca, .list kb cb], iD 0] r := by
  unfold unitR0_M at h
  obtain ⟨⟨k0, c1, k2, c3⟩, f1_, h2_⟩ := pullD_elim h
  replace f1_ := m_23_ok f1_
  obtain ⟨j, ds, e3_, h4_⟩ := bindL_elim h2_
  by_cases j5_ : j = 0
  · have h8_ := (if_pos j5_).symm.trans h4_
    clear h4_
    subst j5_
    obtain ⟨l4, e6_, h9_⟩ := pullD_elim h8_
    clear h8_
    obtain rfl := tup_inj e6_
    have k7_ := unitR0_L13_in0 ka ca kb cb k0 c1 k2 c3 e3_
    obtain rfl := Option.some.inj h9_
    exact con_pc (op := true) (I := [26]) (sp := unitR0_sp) 3000 (bT 1 []) [.agg [.list k0 c1, .list k2 c3], .tup [iD (Int.ofNat 0), iD l4]] [c_T] [k_c f1_, k_l k7_ [] [.tup [iD (Int.ofNat 0), iD l4]] []] (by kernel_rfl)
  have h10_ := (if_neg j5_).symm.trans h4_
  clear h4_
  cases h10_
def m_26k0 (ds : List D) : Option D := pullD (α := Nat × (List D) × Nat × (List D)) (some (.tup ds)) (fun d => ((D.ln (D.at (D.at d 0) 0)), (D.lc (D.at (D.at d 0) 0)), (D.ln (D.at (D.at d 0) 1)), (D.lc (D.at (D.at d 0) 1)))) (fun (ka, ca, kb, cb) => .tup [.agg [.list ka ca, .list kb cb], iD 0]) fun (ka, ca, kb, cb) => unitR0_M ka ca kb cb
theorem m_26k0_ok {ds : List D} {r : D} (h : m_26k0 ds = some r) : Con 26 ds r := by
  unfold m_26k0 at h
  obtain ⟨⟨ka, ca, kb, cb⟩, e0, h0⟩ := pullD_elim h
  obtain rfl := tup_inj e0
  exact unitR0_M_ok ka ca kb cb h0
theorem m_26k0_eq (ka : Nat) (ca : List D) (kb : Nat) (cb : List D) : m_26k0 [.agg [.list ka ca, .list kb cb], iD 0] = unitR0_M ka ca kb cb := pullD_some (ka, ca, kb, cb) rfl rfl
def unitR1_x13_0 : LExit := ⟨some 1, [.val 6], (7 :: (List.range' 29 13))⟩
def unitR1_sp : List LSpec := [⟨26, 13, [unitR1_x13_0]⟩]
def unitR1_L13_E (ka : Nat) (ca : List D) (kb : Nat) (cb : List D) (x0 : Nat) (x1 : List D) (x2 : Nat) (x3 : List D) : List AV × AHeap := ([.agg [.dsl 0, .dsl 1], .pure (.int .i64 (1 : Int)), .ptr 2 0, .pure (.tuple #[]), .pure (.int .i64 (0 : Int)), .dsl 4, .pure (.int .i64 (0 : Int)), .pure (.int .i64 (0 : Int)), .pure (.int .i64 (1 : Int)), .pure (.bool false), .pure (.bool false), .pure (.tuple #[]), .pure (.tuple #[]), .pure (.tuple #[]), .pure (.bool true), .pure (.bool true), .agg [.dsl 0, .dsl 1], .agg [.dsl 3, .dsl 4], .dsl 4, .pure (.tuple #[]), .pure (.tuple #[]), .pure (.tuple #[]), .pure (.tuple #[]), .pure (.tuple #[]), .pure (.tuple #[]), .pure (.tuple #[]), .pure (.tuple #[]), .pure (.tuple #[]), .pure (.tuple #[]), .pure (.tuple #[]), .pure (.tuple #[]), .pure (.tuple #[]), .pure (.tuple #[]), .pure (.tuple #[]), .pure (.tuple #[]), .pure (.tuple #[]), .pure (.tuple #[]), .pure (.tuple #[]), .pure (.tuple #[]), .pure (.tuple #[]), .pure (.tuple #[]), .pure (.tuple #[]), .pure (.tuple #[])], [(4, { cells := [], opn := none, kind := .deep x2 x3 }), (3, { cells := [], opn := none, kind := .deep x0 x1 }), (2, { cells := [.dsl 0, .dsl 1], opn := none, kind := .cells }), (1, { cells := [], opn := none, kind := .deep kb cb }), (0, { cells := [], opn := none, kind := .deep ka ca })])
def unitR1_L13_A : LoopAt := ⟨26, loopAt Try.prog 26 0, 5, 20, 5, noFrame⟩
theorem unitR1_L13_ok : (unitR1_L13_A).OK := ⟨by show 5 ≤ 20; decide, by show 5 ≤ 5; decide, by kernel_rfl, rfl⟩
def unitR1_L13_gs (ka : Nat) (ca : List D) (kb : Nat) (cb : List D) (x0 : Nat) (x1 : List D) (x2 : Nat) (x3 : List D) : Go.Ev.Rd → Option GS
  | .next 0 ds => ghost [.val 6, .val 7] (List.range' 29 13) (unitR1_L13_E ka ca kb cb x0 x1 x2 x3).1 (unitR1_L13_E ka ca kb cb x0 x1 x2 x3).2 5 ds
  | .out 0 ds => ghost unitR1_x13_0.live unitR1_x13_0.junk (unitR1_L13_E ka ca kb cb x0 x1 x2 x3).1 (unitR1_L13_E ka ca kb cb x0 x1 x2 x3).2 5 ds
  | _ => none
def unitR1_L13_ex : Nat → Option Nat
  | 0 => unitR1_x13_0.ex
  | _ => none
def unitR1_L13_ax : Go.Ev.Rd → AX
  | .next _ _ => .normal
  | .out j _ => axOf (unitR1_L13_ex j)
def unitR1_L13_S0 (ka : Nat) (ca : List D) (kb : Nat) (cb : List D) (x0 : Nat) (x1 : List D) (x2 : Nat) (x3 : List D) (ds : List D) : Option Go.Ev.Rd := pullD (α := Int × Int) (some (.tup ds)) (fun d => ((D.vi (D.at d 0)), (D.vi (D.at d 1)))) (fun (s6, s7) => .tup [iD s6, iD s7]) fun (s6, s7) => ((if s7 < (x2 : Int) then guardP ((0 : Int) ≤ s7 ∧ s7.toNat < x2) (pullD (α := Int) (readD x3 (s7.toNat * 1) 1 false) (fun d => ((D.vi d))) (fun v0 => iD v0) fun v0 => (pullD (α := Int) (m_55 [iD v0]) (fun d => ((D.vi d))) (fun r1 => iD r1) fun r1 => (some (.next 0 [iD (if r1 > s6 then r1 else s6), iD (IntKind.i64.wrap (s7 + (1 : Int)))])))) else some (.out 0 [iD s6])))
def unitR1_L13_S (ka : Nat) (ca : List D) (kb : Nat) (cb : List D) (x0 : Nat) (x1 : List D) (x2 : Nat) (x3 : List D) : Go.Ev.Rd → Option Go.Ev.Rd
  | .next 0 ds => unitR1_L13_S0 ka ca kb cb x0 x1 x2 x3 ds
  | _ => none
theorem unitR1_L13_S_ok (ka : Nat) (ca : List D) (kb : Nat) (cb : List D) (x0 : Nat) (x1 : List D) (x2 : Nat) (x3 : List D) : ∀ s_ t_, unitR1_L13_S ka ca kb cb x0 x1 x2 x3 s_ = some t_ → Step (ctx [26] unitR1_sp) Tabs unitR1_L13_A (stateOf (unitR1_L13_gs ka ca kb cb x0 x1 x2 x3 s_)) (stateOf (unitR1_L13_gs ka ca kb cb x0 x1 x2 x3 t_)) (unitR1_L13_ax t_) ∧ EndOK unitR1_L13_A.nx unitR1_L13_A.low (unitR1_L13_gs ka ca kb cb x0 x1 x2 x3) t_
  | .next 0 ds, t_, h => by
    have h_ : unitR1_L13_S0 ka ca kb cb x0 x1 x2 x3 ds = some t_ := h
    clear h
    unfold unitR1_L13_S0 at h_
    obtain ⟨⟨s6, s7⟩, e0, h0⟩ := pullD_elim h_
    clear h_
    obtain rfl := tup_inj e0
    by_cases b1_ : s7 < (x2 : Int)
    · have h2_ := (if_pos b1_).symm.trans h0
      obtain ⟨f3_, h4_⟩ := guardP_elim h2_
      obtain ⟨v0, f5_, h6_⟩ := pullD_elim h4_
      replace f5_ := readD_elim f5_
      obtain ⟨r1, f7_, h8_⟩ := pullD_elim h6_
      replace f7_ := m_55_ok f7_
      obtain rfl := Option.some.inj h8_
      exact ⟨step_pc 3000 (bT 1 []) [iD v0, iD r1] [c_d b1_, c_f f3_, c_f f5_] [k_c f7_] _ rfl (by kernel_rfl) (by kernel_rfl) (by kernel_rfl) (by kernel_rfl) (by kernel_rfl) (by kernel_rfl), trivial⟩
    have h2_ := (if_neg b1_).symm.trans h0
    obtain rfl := Option.some.inj h2_
    exact ⟨step_pc 3000 (bF 1 []) [] [c_n b1_] [] _ rfl (by kernel_rfl) (by kernel_rfl) (by kernel_rfl) (by kernel_rfl) (by kernel_rfl) (by kernel_rfl), by kernel_rfl, by kernel_rfl⟩
  | .next (_ + 1) _, _, h => by cases h
  | .out _ _, _, h => by cases h
theorem unitR1_L13_go (ka : Nat) (ca : List D) (kb : Nat) (cb : List D) (x0 : Nat) (x1 : List D) (x2 : Nat) (x3 : List D) {q : Nat} {ds : List D} {j : Nat} {es : List D} (h : runR (unitR1_L13_S ka ca kb cb x0 x1 x2 x3) (.next q ds) = some (.out j es)) : Runs (ctx [26] unitR1_sp) Tabs unitR1_L13_A (stateOf (unitR1_L13_gs ka ca kb cb x0 x1 x2 x3 (.next q ds))) (stateOf (unitR1_L13_gs ka ca kb cb x0 x1 x2 x3 (.out j es))) (unitR1_L13_ax (.out j es)) ∧ (nxtOf (unitR1_L13_gs ka ca kb cb x0 x1 x2 x3 (.out j es)), lowGS (unitR1_L13_gs ka ca kb cb x0 x1 x2 x3 (.out j es))) = (unitR1_L13_A.nx, unitR1_L13_A.low) :=
  runs_of' (good true _ _) unitR1_L13_ok (ax := unitR1_L13_ax) (fun _ _ => rfl) (fun _ _ => axOf_end _) (unitR1_L13_S_ok ka ca kb cb x0 x1 x2 x3) h
theorem unitR1_L13_in0 (ka : Nat) (ca : List D) (kb : Nat) (cb : List D) (x0 : Nat) (x1 : List D) (x2 : Nat) (x3 : List D) {es : List D} (h : runR (unitR1_L13_S ka ca kb cb x0 x1 x2 x3) (.next 0 [iD ((0 : Int)), iD ((0 : Int))]) = some (.out 0 es)) : LoopC (loopAt Try.prog 26 0) (unitR1_L13_E ka ca kb cb x0 x1 x2 x3) 5 noFrame unitR1_x13_0 es :=
  have r := unitR1_L13_go ka ca kb cb x0 x1 x2 x3 h
  loopin_as rfl (loop_in (l := unitR1_L13_A) (E := (unitR1_L13_E ka ca kb cb x0 x1 x2 x3)) (S := stateOf (unitR1_L13_gs ka ca kb cb x0 x1 x2 x3 (.next 0 [iD ((0 : Int)), iD ((0 : Int))]))) (ns := nsOf (unitR1_L13_gs ka ca kb cb x0 x1 x2 x3 (.next 0 [iD ((0 : Int)), iD ((0 : Int))]))) unitR1_L13_ok r.1 r.2 (by kernel_rfl) (by kernel_rfl) (by kernel_rfl) (by kernel_rfl))
def unitR1_M (ka : Nat) (ca : List D) (kb : Nat) (cb : List D) : Option D := pullD (α := Nat × (List D) × Nat × (List D)) (m_23 [.agg [.list ka ca, .list kb cb]]) (fun d => ((D.ln (D.at d 0)), (D.lc (D.at d 0)), (D.ln (D.at d 1)), (D.lc (D.at d 1)))) (fun (k0, c1, k2, c3) => .agg [.list k0 c1, .list k2 c3]) fun (k0, c1, k2, c3) => (bindL (runR (unitR1_L13_S ka ca kb cb k0 c1 k2 c3) (.next 0 [iD ((0 : Int)), iD ((0 : Int))])) fun j ds => (if j = 0 then pullD (α := Int) (some (.tup ds)) (fun d => ((D.vi (D.at d 0)))) (fun l4 => .tup [iD l4]) fun l4 => (some (iD l4)) else none))
theorem unitR1_M_ok (ka : Nat) (ca : List D) (kb : Nat) (cb : List D) {r : D} (h : unitR1_M ka ca kb cb = some r) : Con 26 [.agg [.list ka ca, .list kb cb], iD 1] r := by
  unfold unitR1_M at h
  obtain ⟨⟨k0, c1, k2, c3⟩, f1_, h2_⟩ := pullD_elim h
  replace f1_ := m_23_ok f1_
  obtain ⟨j, ds, e3_, h4_⟩ := bindL_elim h2_
  by_cases j5_ : j = 0
  · have h8_ := (if_pos j5_).symm.trans h4_
    clear h4_
    subst j5_
    obtain ⟨l4, e6_, h9_⟩ := pullD_elim h8_
    clear h8_
    obtain rfl := tup_inj e6_
    have k7_ := unitR1_L13_in0 ka ca kb cb k0 c1 k2 c3 e3_
    obtain rfl := Option.some.inj h9_
    exact con_pc (op := true) (I := [26]) (sp := unitR1_sp) 3000 (bF 1 (bT 1 [])) [.agg [.list k0 c1, .list k2 c3], .tup [iD (Int.ofNat 0), iD l4]] [c_F, c_T] [k_c f1_, k_l k7_ [] [.tup [iD (Int.ofNat 0), iD l4]] []] (by kernel_rfl)
  have h10_ := (if_neg j5_).symm.trans h4_
  clear h4_
  cases h10_
def m_26k1 (ds : List D) : Option D := pullD (α := Nat × (List D) × Nat × (List D)) (some (.tup ds)) (fun d => ((D.ln (D.at (D.at d 0) 0)), (D.lc (D.at (D.at d 0) 0)), (D.ln (D.at (D.at d 0) 1)), (D.lc (D.at (D.at d 0) 1)))) (fun (ka, ca, kb, cb) => .tup [.agg [.list ka ca, .list kb cb], iD 1]) fun (ka, ca, kb, cb) => unitR1_M ka ca kb cb
theorem m_26k1_ok {ds : List D} {r : D} (h : m_26k1 ds = some r) : Con 26 ds r := by
  unfold m_26k1 at h
  obtain ⟨⟨ka, ca, kb, cb⟩, e0, h0⟩ := pullD_elim h
  obtain rfl := tup_inj e0
  exact unitR1_M_ok ka ca kb cb h0
theorem m_26k1_eq (ka : Nat) (ca : List D) (kb : Nat) (cb : List D) : m_26k1 [.agg [.list ka ca, .list kb cb], iD 1] = unitR1_M ka ca kb cb := pullD_some (ka, ca, kb, cb) rfl rfl
def unitR2_x13_0 : LExit := ⟨some 1, [.val 6], (7 :: (List.range' 29 13))⟩
def unitR2_sp : List LSpec := [⟨26, 13, [unitR2_x13_0]⟩]
def unitR2_L13_E (ka : Nat) (ca : List D) (kb : Nat) (cb : List D) (x0 : Nat) (x1 : List D) (x2 : Nat) (x3 : List D) : List AV × AHeap := ([.agg [.dsl 0, .dsl 1], .pure (.int .i64 (2 : Int)), .ptr 2 0, .pure (.tuple #[]), .pure (.int .i64 (0 : Int)), .dsl 3, .pure (.int .i64 (0 : Int)), .pure (.int .i64 (0 : Int)), .pure (.int .i64 (2 : Int)), .pure (.bool false), .pure (.bool false), .pure (.tuple #[]), .pure (.tuple #[]), .pure (.tuple #[]), .pure (.bool false), .pure (.bool false), .pure (.tuple #[]), .pure (.tuple #[]), .pure (.tuple #[]), .pure (.bool true), .pure (.bool true), .agg [.dsl 0, .dsl 1], .agg [.dsl 3, .dsl 4], .dsl 3, .pure (.tuple #[]), .pure (.tuple #[]), .pure (.tuple #[]), .pure (.tuple #[]), .pure (.tuple #[]), .pure (.tuple #[]), .pure (.tuple #[]), .pure (.tuple #[]), .pure (.tuple #[]), .pure (.tuple #[]), .pure (.tuple #[]), .pure (.tuple #[]), .pure (.tuple #[]), .pure (.tuple #[]), .pure (.tuple #[]), .pure (.tuple #[]), .pure (.tuple #[]), .pure (.tuple #[]), .pure (.tuple #[])], [(4, { cells := [], opn := none, kind := .deep x2 x3 }), (3, { cells := [], opn := none, kind := .deep x0 x1 }), (2, { cells := [.dsl 0, .dsl 1], opn := none, kind := .cells }), (1, { cells := [], opn := none, kind := .deep kb cb }), (0, { cells := [], opn := none, kind := .deep ka ca })])
def unitR2_L13_A : LoopAt := ⟨26, loopAt Try.prog 26 0, 5, 20, 5, noFrame⟩
theorem unitR2_L13_ok : (unitR2_L13_A).OK := ⟨by show 5 ≤ 20; decide, by show 5 ≤ 5; decide, by kernel_rfl, rfl⟩
def unitR2_L13_gs (ka : Nat) (ca : List D) (kb : Nat) (cb : List D) (x0 : Nat) (x1 : List D) (x2 : Nat) (x3 : List D) : Go.Ev.Rd → Option GS
  | .next 0 ds => ghost [.val 6, .val 7] (List.range' 29 13) (unitR2_L13_E ka ca kb cb x0 x1 x2 x3).1 (unitR2_L13_E ka ca kb cb x0 x1 x2 x3).2 5 ds
  | .out 0 ds => ghost unitR2_x13_0.live unitR2_x13_0.junk (unitR2_L13_E ka ca kb cb x0 x1 x2 x3).1 (unitR2_L13_E ka ca kb cb x0 x1 x2 x3).2 5 ds
  | _ => none
def unitR2_L13_ex : Nat → Option Nat
  | 0 => unitR2_x13_0.ex
  | _ => none
def unitR2_L13_ax : Go.Ev.Rd → AX
  | .next _ _ => .normal
  | .out j _ => axOf (unitR2_L13_ex j)
def unitR2_L13_S0 (ka : Nat) (ca : List D) (kb : Nat) (cb : List D) (x0 : Nat) (x1 : List D) (x2 : Nat) (x3 : List D) (ds : List D) : Option Go.Ev.Rd := pullD (α := Int × Int) (some (.tup ds)) (fun d => ((D.vi (D.at d 0)), (D.vi (D.at d 1)))) (fun (s6, s7) => .tup [iD s6, iD s7]) fun (s6, s7) => ((if s7 < (x0 : Int) then guardP ((0 : Int) ≤ s7 ∧ s7.toNat < x0) (pullD (α := Int) (readD x1 (s7.toNat * 1) 1 false) (fun d => ((D.vi d))) (fun v0 => iD v0) fun v0 => (pullD (α := Int) (m_55 [iD v0]) (fun d => ((D.vi d))) (fun r1 => iD r1) fun r1 => (some (.next 0 [iD (if r1 > s6 then r1 else s6), iD (IntKind.i64.wrap (s7 + (1 : Int)))])))) else some (.out 0 [iD s6])))
def unitR2_L13_S (ka : Nat) (ca : List D) (kb : Nat) (cb : List D) (x0 : Nat) (x1 : List D) (x2 : Nat) (x3 : List D) : Go.Ev.Rd → Option Go.Ev.Rd
  | .next 0 ds => unitR2_L13_S0 ka ca kb cb x0 x1 x2 x3 ds
  | _ => none
theorem unitR2_L13_S_ok (ka : Nat) (ca : List D) (kb : Nat) (cb : List D) (x0 : Nat) (x1 : List D) (x2 : Nat) (x3 : List D) : ∀ s_ t_, unitR2_L13_S ka ca kb cb x0 x1 x2 x3 s_ = some t_ → Step (ctx [26] unitR2_sp) Tabs unitR2_L13_A (stateOf (unitR2_L13_gs ka ca kb cb x0 x1 x2 x3 s_)) (stateOf (unitR2_L13_gs ka ca kb cb x0 x1 x2 x3 t_)) (unitR2_L13_ax t_) ∧ EndOK unitR2_L13_A.nx unitR2_L13_A.low (unitR2_L13_gs ka ca kb cb x0 x1 x2 x3) t_
  | .next 0 ds, t_, h => by
    have h_ : unitR2_L13_S0 ka ca kb cb x0 x1 x2 x3 ds = some t_ := h
    clear h
    unfold unitR2_L13_S0 at h_
    obtain ⟨⟨s6, s7⟩, e0, h0⟩ := pullD_elim h_
    clear h_
    obtain rfl := tup_inj e0
    by_cases b1_ : s7 < (x0 : Int)
    · have h2_ := (if_pos b1_).symm.trans h0
      obtain ⟨f3_, h4_⟩ := guardP_elim h2_
      obtain ⟨v0, f5_, h6_⟩ := pullD_elim h4_
      replace f5_ := readD_elim f5_
      obtain ⟨r1, f7_, h8_⟩ := pullD_elim h6_
      replace f7_ := m_55_ok f7_
      obtain rfl := Option.some.inj h8_
      exact ⟨step_pc 3000 (bT 1 []) [iD v0, iD r1] [c_d b1_, c_f f3_, c_f f5_] [k_c f7_] _ rfl (by kernel_rfl) (by kernel_rfl) (by kernel_rfl) (by kernel_rfl) (by kernel_rfl) (by kernel_rfl), trivial⟩
    have h2_ := (if_neg b1_).symm.trans h0
    obtain rfl := Option.some.inj h2_
    exact ⟨step_pc 3000 (bF 1 []) [] [c_n b1_] [] _ rfl (by kernel_rfl) (by kernel_rfl) (by kernel_rfl) (by kernel_rfl) (by kernel_rfl) (by kernel_rfl), by kernel_rfl, by kernel_rfl⟩
  | .next (_ + 1) _, _, h => by cases h
  | .out _ _, _, h => by cases h
theorem unitR2_L13_go (ka : Nat) (ca : List D) (kb : Nat) (cb : List D) (x0 : Nat) (x1 : List D) (x2 : Nat) (x3 : List D) {q : Nat} {ds : List D} {j : Nat} {es : List D} (h : runR (unitR2_L13_S ka ca kb cb x0 x1 x2 x3) (.next q ds) = some (.out j es)) : Runs (ctx [26] unitR2_sp) Tabs unitR2_L13_A (stateOf (unitR2_L13_gs ka ca kb cb x0 x1 x2 x3 (.next q ds))) (stateOf (unitR2_L13_gs ka ca kb cb x0 x1 x2 x3 (.out j es))) (unitR2_L13_ax (.out j es)) ∧ (nxtOf (unitR2_L13_gs ka ca kb cb x0 x1 x2 x3 (.out j es)), lowGS (unitR2_L13_gs ka ca kb cb x0 x1 x2 x3 (.out j es))) = (unitR2_L13_A.nx, unitR2_L13_A.low) :=
  runs_of' (good true _ _) unitR2_L13_ok (ax := unitR2_L13_ax) (fun _ _ => rfl) (fun _ _ => axOf_end _) (unitR2_L13_S_ok ka ca kb cb x0 x1 x2 x3) h
theorem unitR2_L13_in0 (ka : Nat) (ca : List D) (kb : Nat) (cb : List D) (x0 : Nat) (x1 : List D) (x2 : Nat) (x3 : List D) {es : List D} (h : runR (unitR2_L13_S ka ca kb cb x0 x1 x2 x3) (.next 0 [iD ((0 : Int)), iD ((0 : Int))]) = some (.out 0 es)) : LoopC (loopAt Try.prog 26 0) (unitR2_L13_E ka ca kb cb x0 x1 x2 x3) 5 noFrame unitR2_x13_0 es :=
  have r := unitR2_L13_go ka ca kb cb x0 x1 x2 x3 h
  loopin_as rfl (loop_in (l := unitR2_L13_A) (E := (unitR2_L13_E ka ca kb cb x0 x1 x2 x3)) (S := stateOf (unitR2_L13_gs ka ca kb cb x0 x1 x2 x3 (.next 0 [iD ((0 : Int)), iD ((0 : Int))]))) (ns := nsOf (unitR2_L13_gs ka ca kb cb x0 x1 x2 x3 (.next 0 [iD ((0 : Int)), iD ((0 : Int))]))) unitR2_L13_ok r.1 r.2 (by kernel_rfl) (by kernel_rfl) (by kernel_rfl) (by kernel_rfl))
def unitR2_M (ka : Nat) (ca : List D) (kb : Nat) (cb : List D) : Option D := pullD (α := Nat × (List D) × Nat × (List D)) (m_24 [.agg [.list ka ca, .list kb cb]]) (fun d => ((D.ln (D.at d 0)), (D.lc (D.at d 0)), (D.ln (D.at d 1)), (D.lc (D.at d 1)))) (fun (k0, c1, k2, c3) => .agg [.list k0 c1, .list k2 c3]) fun (k0, c1, k2, c3) => (bindL (runR (unitR2_L13_S ka ca kb cb k0 c1 k2 c3) (.next 0 [iD ((0 : Int)), iD ((0 : Int))])) fun j ds => (if j = 0 then pullD (α := Int) (some (.tup ds)) (fun d => ((D.vi (D.at d 0)))) (fun l4 => .tup [iD l4]) fun l4 => (some (iD l4)) else none))
theorem unitR2_M_ok (ka : Nat) (ca : List D) (kb : Nat) (cb : List D) {r : D} (h : unitR2_M ka ca kb cb = some r) : Con 26 [.agg [.list ka ca, .list kb cb], iD 2] r := by
  unfold unitR2_M at h
  obtain ⟨⟨k0, c1, k2, c3⟩, f1_, h2_⟩ := pullD_elim h
  replace f1_ := m_24_ok f1_
  obtain ⟨j, ds, e3_, h4_⟩ := bindL_elim h2_
  by_cases j5_ : j = 0
  · have h8_ := (if_pos j5_).symm.trans h4_
    clear h4_
    subst j5_
    obtain ⟨l4, e6_, h9_⟩ := pullD_elim h8_
    clear h8_
    obtain rfl := tup_inj e6_
    have k7_ := unitR2_L13_in0 ka ca kb cb k0 c1 k2 c3 e3_
    obtain rfl := Option.some.inj h9_
    exact con_pc (op := true) (I := [26]) (sp := unitR2_sp) 3000 (bF 2 (bT 1 [])) [.agg [.list k0 c1, .list k2 c3], .tup [iD (Int.ofNat 0), iD l4]] [c_F, c_F, c_T] [k_c f1_, k_l k7_ [] [.tup [iD (Int.ofNat 0), iD l4]] []] (by kernel_rfl)
  have h10_ := (if_neg j5_).symm.trans h4_
  clear h4_
  cases h10_
def m_26k2 (ds : List D) : Option D := pullD (α := Nat × (List D) × Nat × (List D)) (some (.tup ds)) (fun d => ((D.ln (D.at (D.at d 0) 0)), (D.lc (D.at (D.at d 0) 0)), (D.ln (D.at (D.at d 0) 1)), (D.lc (D.at (D.at d 0) 1)))) (fun (ka, ca, kb, cb) => .tup [.agg [.list ka ca, .list kb cb], iD 2]) fun (ka, ca, kb, cb) => unitR2_M ka ca kb cb
theorem m_26k2_ok {ds : List D} {r : D} (h : m_26k2 ds = some r) : Con 26 ds r := by
  unfold m_26k2 at h
  obtain ⟨⟨ka, ca, kb, cb⟩, e0, h0⟩ := pullD_elim h
  obtain rfl := tup_inj e0
  exact unitR2_M_ok ka ca kb cb h0
theorem m_26k2_eq (ka : Nat) (ca : List D) (kb : Nat) (cb : List D) : m_26k2 [.agg [.list ka ca, .list kb cb], iD 2] = unitR2_M ka ca kb cb := pullD_some (ka, ca, kb, cb) rfl rfl
def unitR3_x13_0 : LExit := ⟨some 1, [.val 6], (7 :: (List.range' 29 13))⟩
def unitR3_sp : List LSpec := [⟨26, 13, [unitR3_x13_0]⟩]
def unitR3_L13_E (ka : Nat) (ca : List D) (kb : Nat) (cb : List D) (x0 : Nat) (x1 : List D) (x2 : Nat) (x3 : List D) : List AV × AHeap := ([.agg [.dsl 0, .dsl 1], .pure (.int .i64 (3 : Int)), .ptr 2 0, .pure (.tuple #[]), .pure (.int .i64 (0 : Int)), .dsl 4, .pure (.int .i64 (0 : Int)), .pure (.int .i64 (0 : Int)), .pure (.int .i64 (3 : Int)), .pure (.bool false), .pure (.bool false), .pure (.tuple #[]), .pure (.tuple #[]), .pure (.tuple #[]), .pure (.bool false), .pure (.bool false), .pure (.tuple #[]), .pure (.tuple #[]), .pure (.tuple #[]), .pure (.bool false), .pure (.bool false), .pure (.tuple #[]), .pure (.tuple #[]), .pure (.tuple #[]), .pure (.bool true), .pure (.bool true), .agg [.dsl 0, .dsl 1], .agg [.dsl 3, .dsl 4], .dsl 4, .pure (.tuple #[]), .pure (.tuple #[]), .pure (.tuple #[]), .pure (.tuple #[]), .pure (.tuple #[]), .pure (.tuple #[]), .pure (.tuple #[]), .pure (.tuple #[]), .pure (.tuple #[]), .pure (.tuple #[]), .pure (.tuple #[]), .pure (.tuple #[]), .pure (.tuple #[]), .pure (.tuple #[])], [(4, { cells := [], opn := none, kind := .deep x2 x3 }), (3, { cells := [], opn := none, kind := .deep x0 x1 }), (2, { cells := [.dsl 0, .dsl 1], opn := none, kind := .cells }), (1, { cells := [], opn := none, kind := .deep kb cb }), (0, { cells := [], opn := none, kind := .deep ka ca })])
def unitR3_L13_A : LoopAt := ⟨26, loopAt Try.prog 26 0, 5, 20, 5, noFrame⟩
theorem unitR3_L13_ok : (unitR3_L13_A).OK := ⟨by show 5 ≤ 20; decide, by show 5 ≤ 5; decide, by kernel_rfl, rfl⟩
def unitR3_L13_gs (ka : Nat) (ca : List D) (kb : Nat) (cb : List D) (x0 : Nat) (x1 : List D) (x2 : Nat) (x3 : List D) : Go.Ev.Rd → Option GS
  | .next 0 ds => ghost [.val 6, .val 7] (List.range' 29 13) (unitR3_L13_E ka ca kb cb x0 x1 x2 x3).1 (unitR3_L13_E ka ca kb cb x0 x1 x2 x3).2 5 ds
  | .out 0 ds => ghost unitR3_x13_0.live unitR3_x13_0.junk (unitR3_L13_E ka ca kb cb x0 x1 x2 x3).1 (unitR3_L13_E ka ca kb cb x0 x1 x2 x3).2 5 ds
  | _ => none
def unitR3_L13_ex : Nat → Option Nat
  | 0 => unitR3_x13_0.ex
  | _ => none
def unitR3_L13_ax : Go.Ev.Rd → AX
  | .next _ _ => .normal
  | .out j _ => axOf (unitR3_L13_ex j)
def unitR3_L13_S0 (ka : Nat) (ca : List D) (kb : Nat) (cb : List D) (x0 : Nat) (x1 : List D) (x2 : Nat) (x3 : List D) (ds : List D) : Option Go.Ev.Rd := pullD (α := Int × Int) (some (.tup ds)) (fun d => ((D.vi (D.at d 0)), (D.vi (D.at d 1)))) (fun (s6, s7) => .tup [iD s6, iD s7]) fun (s6, s7) => ((if s7 < (x2 : Int) then guardP ((0 : Int) ≤ s7 ∧ s7.toNat < x2) (pullD (α := Int) (readD x3 (s7.toNat * 1) 1 false) (fun d => ((D.vi d))) (fun v0 => iD v0) fun v0 => (pullD (α := Int) (m_55 [iD v0]) (fun d => ((D.vi d))) (fun r1 => iD r1) fun r1 => (some (.next 0 [iD (if r1 > s6 then r1 else s6), iD (IntKind.i64.wrap (s7 + (1 : Int)))])))) else some (.out 0 [iD s6])))
def unitR3_L13_S (ka : Nat) (ca : List D) (kb : Nat) (cb : List D) (x0 : Nat) (x1 : List D) (x2 : Nat) (x3 : List D) : Go.Ev.Rd → Option Go.Ev.Rd
  | .next 0 ds => unitR3_L13_S0 ka ca kb cb x0 x1 x2 x3 ds
  | _ => none
theorem unitR3_L13_S_ok (ka : Nat) (ca : List D) (kb : Nat) (cb : List D) (x0 : Nat) (x1 : List D) (x2 : Nat) (x3 : List D) : ∀ s_ t_, unitR3_L13_S ka ca kb cb x0 x1 x2 x3 s_ = some t_ → Step (ctx [26] unitR3_sp) Tabs unitR3_L13_A (stateOf (unitR3_L13_gs ka ca kb cb x0 x1 x2 x3 s_)) (stateOf (unitR3_L13_gs ka ca kb cb x0 x1 x2 x3 t_)) (unitR3_L13_ax t_) ∧ EndOK unitR3_L13_A.nx unitR3_L13_A.low (unitR3_L13_gs ka ca kb cb x0 x1 x2 x3) t_
  | .next 0 ds, t_, h => by
    have h_ : unitR3_L13_S0 ka ca kb cb x0 x1 x2 x3 ds = some t_ := h
    clear h
    unfold unitR3_L13_S0 at h_
    obtain ⟨⟨s6, s7⟩, e0, h0⟩ := pullD_elim h_
    clear h_
    obtain rfl := tup_inj e0
    by_cases b1_ : s7 < (x2 : Int)
    · have h2_ := (if_pos b1_).symm.trans h0
      obtain ⟨f3_, h4_⟩ := guardP_elim h2_
      obtain ⟨v0, f5_, h6_⟩ := pullD_elim h4_
      replace f5_ := readD_elim f5_
      obtain ⟨r1, f7_, h8_⟩ := pullD_elim h6_
      replace f7_ := m_55_ok f7_
      obtain rfl := Option.some.inj h8_
      exact ⟨step_pc 3000 (bT 1 []) [iD v0, iD r1] [c_d b1_, c_f f3_, c_f f5_] [k_c f7_] _ rfl (by kernel_rfl) (by kernel_rfl) (by kernel_rfl) (by kernel_rfl) (by kernel_rfl) (by kernel_rfl), trivial⟩
    have h2_ := (if_neg b1_).symm.trans h0
    obtain rfl := Option.some.inj h2_
    exact ⟨step_pc 3000 (bF 1 []) [] [c_n b1_] [] _ rfl (by kernel_rfl) (by kernel_rfl) (by kernel_rfl) (by kernel_rfl) (by kernel_rfl) (by kernel_rfl), by kernel_rfl, by kernel_rfl⟩
  | .next (_ + 1) _, _, h => by cases h
  | .out _ _, _, h => by cases h
theorem unitR3_L13_go (ka : Nat) (ca : List D) (kb : Nat) (cb : List D) (x0 : Nat) (x1 : List D) (x2 : Nat) (x3 : List D) {q : Nat} {ds : List D} {j : Nat} {es : List D} (h : runR (unitR3_L13_S ka ca kb cb x0 x1 x2 x3) (.next q ds) = some (.out j es)) : Runs (ctx [26] unitR3_sp) Tabs unitR3_L13_A (stateOf (unitR3_L13_gs ka ca kb cb x0 x1 x2 x3 (.next q ds))) (stateOf (unitR3_L13_gs ka ca kb cb x0 x1 x2 x3 (.out j es))) (unitR3_L13_ax (.out j es)) ∧ (nxtOf (unitR3_L13_gs ka ca kb cb x0 x1 x2 x3 (.out j es)), lowGS (unitR3_L13_gs ka ca kb cb x0 x1 x2 x3 (.out j es))) = (unitR3_L13_A.nx, unitR3_L13_A.low) :=
  runs_of' (good true _ _) unitR3_L13_ok (ax := unitR3_L13_ax) (fun _ _ => rfl) (fun _ _ => axOf_end _) (unitR3_L13_S_ok ka ca kb cb x0 x1 x2 x3) h
theorem unitR3_L13_in0 (ka : Nat) (ca : List D) (kb : Nat) (cb : List D) (x0 : Nat) (x1 : List D) (x2 : Nat) (x3 : List D) {es : List D} (h : runR (unitR3_L13_S ka ca kb cb x0 x1 x2 x3) (.next 0 [iD ((0 : Int)), iD ((0 : Int))]) = some (.out 0 es)) : LoopC (loopAt Try.prog 26 0) (unitR3_L13_E ka ca kb cb x0 x1 x2 x3) 5 noFrame unitR3_x13_0 es :=
  have r := unitR3_L13_go ka ca kb cb x0 x1 x2 x3 h
  loopin_as rfl (loop_in (l := unitR3_L13_A) (E := (unitR3_L13_E ka ca kb cb x0 x1 x2 x3)) (S := stateOf (unitR3_L13_gs ka ca kb cb x0 x1 x2 x3 (.next 0 [iD ((0 : Int)), iD ((0 : Int))]))) (ns := nsOf (unitR3_L13_gs ka ca kb cb x0 x1 x2 x3 (.next 0 [iD ((0 : Int)), iD ((0 : Int))]))) unitR3_L13_ok r.1 r.2 (by kernel_rfl) (by kernel_rfl) (by kernel_rfl) (by kernel_rfl))
def unitR3_M (ka : Nat) (ca : List D) (kb : Nat) (cb : List D) : Option D := pullD (α := Nat × (List D) × Nat × (List D)) (m_24 [.agg [.list ka ca, .list kb cb]]) (fun d => ((D.ln (D.at d 0)), (D.lc (D.at d 0)), (D.ln (D.at d 1)), (D.lc (D.at d 1)))) (fun (k0, c1, k2, c3) => .agg [.list k0 c1, .list k2 c3]) fun (k0, c1, k2, c3) => (bindL (runR (unitR3_L13_S ka ca kb cb k0 c1 k2 c3) (.next 0 [iD ((0 : Int)), iD ((0 : Int))])) fun j ds => (if j = 0 then pullD (α := Int) (some (.tup ds)) (fun d => ((D.vi (D.at d 0)))) (fun l4 => .tup [iD l4]) fun l4 => (some (iD l4)) else none))
theorem unitR3_M_ok (ka : Nat) (ca : List D) (kb : Nat) (cb : List D) {r : D} (h : unitR3_M ka ca kb cb = some r) : Con 26 [.agg [.list ka ca, .list kb cb], iD 3] r := by
  unfold unitR3_M at h
  obtain ⟨⟨k0, c1, k2, c3⟩, f1_, h2_⟩ := pullD_elim h
  replace f1_ := m_24_ok f1_
  obtain ⟨j, ds, e3_, h4_⟩ := bindL_elim h2_
  by_cases j5_ : j = 0
  · have h8_ := (if_pos j5_).symm.trans h4_
    clear h4_
    subst j5_
    obtain ⟨l4, e6_, h9_⟩ := pullD_elim h8_
    clear h8_
    obtain rfl := tup_inj e6_
    have k7_ := unitR3_L13_in0 ka ca kb cb k0 c1 k2 c3 e3_
    obtain rfl := Option.some.inj h9_
    exact con_pc (op := true) (I := [26]) (sp := unitR3_sp) 3000 (bF 3 (bT 1 [])) [.agg [.list k0 c1, .list k2 c3], .tup [iD (Int.ofNat 0), iD l4]] [c_F, c_F, c_F, c_T] [k_c f1_, k_l k7_ [] [.tup [iD (Int.ofNat 0), iD l4]] []] (by kernel_rfl)
  have h10_ := (if_neg j5_).symm.trans h4_
  clear h4_
  cases h10_
def m_26k3 (ds : List D) : Option D := pullD (α := Nat × (List D) × Nat × (List D)) (some (.tup ds)) (fun d => ((D.ln (D.at (D.at d 0) 0)), (D.lc (D.at (D.at d 0) 0)), (D.ln (D.at (D.at d 0) 1)), (D.lc (D.at (D.at d 0) 1)))) (fun (ka, ca, kb, cb) => .tup [.agg [.list ka ca, .list kb cb], iD 3]) fun (ka, ca, kb, cb) => unitR3_M ka ca kb cb
theorem m_26k3_ok {ds : List D} {r : D} (h : m_26k3 ds = some r) : Con 26 ds r := by
  unfold m_26k3 at h
  obtain ⟨⟨ka, ca, kb, cb⟩, e0, h0⟩ := pullD_elim h
  obtain rfl := tup_inj e0
  exact unitR3_M_ok ka ca kb cb h0
theorem m_26k3_eq (ka : Nat) (ca : List D) (kb : Nat) (cb : List D) : m_26k3 [.agg [.list ka ca, .list kb cb], iD 3] = unitR3_M ka ca kb cb := pullD_some (ka, ca, kb, cb) rfl rfl
def m_26 (ds : List D) : Option D := m_26k0 ds <|> m_26k1 ds <|> m_26k2 ds <|> m_26k3 ds
theorem m_26_ok {ds : List D} {r : D} (h : m_26 ds = some r) : Con 26 ds r := by
  unfold m_26 at h
  rcases orElse_elim h with h | h
  · exact m_26k0_ok h
  rcases orElse_elim h with h | h
  · exact m_26k1_ok h
  rcases orElse_elim h with h | h
  · exact m_26k2_ok h
  exact m_26k3_ok h
def sameF_sp : List LSpec := []
def sameF_M (ka : Nat) (ca : List D) (kb : Nat) (cb : List D) (kc : Nat) (cc : List D) (kd : Nat) (cd : List D) : Option D := pullD (α := Bool) (m_19 [.list ka ca, .list kc cc]) (fun d => ((D.vb d))) (fun r0 => .one (.bool r0)) fun r0 => ((if (r0) = true then pullD (α := Bool) (m_19 [.list kb cb, .list kd cd]) (fun d => ((D.vb d))) (fun r1 => .one (.bool r1)) fun r1 => (some (.one (.bool r1))) else some (.one (.bool false))))
theorem sameF_M_ok (ka : Nat) (ca : List D) (kb : Nat) (cb : List D) (kc : Nat) (cc : List D) (kd : Nat) (cd : List D) {r : D} (h : sameF_M ka ca kb cb kc cc kd cd = some r) : Con 21 [.agg [.list ka ca, .list kb cb], .agg [.list kc cc, .list kd cd]] r := by
  unfold sameF_M at h
  obtain ⟨r0, f1_, h2_⟩ := pullD_elim h
  replace f1_ := m_19_ok f1_
  by_cases b3_ : (r0) = true
  · have h4_ := (if_pos b3_).symm.trans h2_
    obtain ⟨r1, f5_, h6_⟩ := pullD_elim h4_
    replace f5_ := m_19_ok f5_
    obtain rfl := Option.some.inj h6_
    exact con_pc (op := true) (I := [21]) (sp := sameF_sp) 3000 (bT 6 []) [.one (.bool r0), .one (.bool r1)] [c_q b3_, c_q b3_, c_q b3_, c_q b3_, c_q b3_, c_q b3_] [k_c f1_, k_c f5_] (by kernel_rfl)
  have h4_ := (if_neg b3_).symm.trans h2_
  have b7_ : (r0) = false := by first | exact b3_ | simpa using b3_
  obtain rfl := Option.some.inj h4_
  exact con_pc (op := true) (I := [21]) (sp := sameF_sp) 3000 (bF 6 []) [.one (.bool r0)] [c_q b7_, c_q b7_, c_q b7_, c_q b7_, c_q b7_, c_q b7_] [k_c f1_] (by kernel_rfl)
def m_21 (ds : List D) : Option D := pullD (α := Nat × (List D) × Nat × (List D) × Nat × (List D) × Nat × (List D)) (some (.tup ds)) (fun d => ((D.ln (D.at (D.at d 0) 0)), (D.lc (D.at (D.at d 0) 0)), (D.ln (D.at (D.at d 0) 1)), (D.lc (D.at (D.at d 0) 1)), (D.ln (D.at (D.at d 1) 0)), (D.lc (D.at (D.at d 1) 0)), (D.ln (D.at (D.at d 1) 1)), (D.lc (D.at (D.at d 1) 1)))) (fun (ka, ca, kb, cb, kc, cc, kd, cd) => .tup [.agg [.list ka ca, .list kb cb], .agg [.list kc cc, .list kd cd]]) fun (ka, ca, kb, cb, kc, cc, kd, cd) => sameF_M ka ca kb cb kc cc kd cd
theorem m_21_ok {ds : List D} {r : D} (h : m_21 ds = some r) : Con 21 ds r := by
  unfold m_21 at h
  obtain ⟨⟨ka, ca, kb, cb, kc, cc, kd, cd⟩, e0, h0⟩ := pullD_elim h
  obtain rfl := tup_inj e0
  exact sameF_M_ok ka ca kb cb kc cc kd cd h0
theorem m_21_eq (ka : Nat) (ca : List D) (kb : Nat) (cb : List D) (kc : Nat) (cc : List D) (kd : Nat) (cd : List D) : m_21 [.agg [.list ka ca, .list kb cb], .agg [.list kc cc, .list kd cd]] = sameF_M ka ca kb cb kc cc kd cd := pullD_some (ka, ca, kb, cb, kc, cc, kd, cd) rfl rfl
def law3_sp : List LSpec := []
def law3_M_s0 (ka : Nat) (ca : List D) (kb : Nat) (cb : List D) (n : Int) (r0 : Bool) : Option D := pullD (α := Bool) (m_9 [.agg [.list ka ca, .list kb cb]]) (fun d => ((D.vb d))) (fun r1 => .one (.bool r1)) fun r1 => ((if r1 = false then some (.one (.bool true)) else pullD (α := Nat × (List D) × Nat × (List D)) (m_11 [.agg [.list ka ca, .list kb cb]]) (fun d => ((D.ln (D.at d 0)), (D.lc (D.at d 0)), (D.ln (D.at d 1)), (D.lc (D.at d 1)))) (fun (k2, c3, k4, c5) => .agg [.list k2 c3, .list k4 c5]) fun (k2, c3, k4, c5) => (pullD (α := Nat × (List D) × Int) (m_10 [.agg [.list k2 c3, .list k4 c5]]) (fun d => ((D.ln (D.at d 0)), (D.lc (D.at d 0)), (D.vi (D.at d 1)))) (fun (k6, c7, r8) => .tup [.list k6 c7, iD r8]) fun (k6, c7, r8) => (pullD (α := Nat × (List D) × Nat × (List D)) (m_11 [.agg [.list ka ca, .list kb cb]]) (fun d => ((D.ln (D.at d 0)), (D.lc (D.at d 0)), (D.ln (D.at d 1)), (D.lc (D.at d 1)))) (fun (k9, c10, k11, c12) => .agg [.list k9 c10, .list k11 c12]) fun (k9, c10, k11, c12) => (pullD (α := Nat × (List D) × Nat × (List D) × Int) (m_12 [.agg [.list k9 c10, .list k11 c12]]) (fun d => ((D.ln (D.at (D.at d 0) 0)), (D.lc (D.at (D.at d 0) 0)), (D.ln (D.at (D.at d 0) 1)), (D.lc (D.at (D.at d 0) 1)), (D.vi (D.at d 1)))) (fun (k13, c14, k15, c16, r17) => .tup [.agg [.list k13 c14, .list k15 c16], iD r17]) fun (k13, c14, k15, c16, r17) => (pullD (α := Nat × (List D) × Nat × (List D)) (m_11 [.agg [.list ka ca, .list kb cb]]) (fun d => ((D.ln (D.at d 0)), (D.lc (D.at d 0)), (D.ln (D.at d 1)), (D.lc (D.at d 1)))) (fun (k18, c19, k20, c21) => .agg [.list k18 c19, .list k20 c21]) fun (k18, c19, k20, c21) => (pullD (α := Nat × (List D) × Nat × (List D) × Int) (m_13 [.agg [.list k18 c19, .list k20 c21]]) (fun d => ((D.ln (D.at (D.at d 0) 0)), (D.lc (D.at (D.at d 0) 0)), (D.ln (D.at (D.at d 0) 1)), (D.lc (D.at (D.at d 0) 1)), (D.vi (D.at d 1)))) (fun (k22, c23, k24, c25, r26) => .tup [.agg [.list k22 c23, .list k24 c25], iD r26]) fun (k22, c23, k24, c25, r26) => (pullD (α := Nat × (List D) × Nat × (List D)) (m_11 [.agg [.list ka ca, .list kb cb]]) (fun d => ((D.ln (D.at d 0)), (D.lc (D.at d 0)), (D.ln (D.at d 1)), (D.lc (D.at d 1)))) (fun (k27, c28, k29, c30) => .agg [.list k27 c28, .list k29 c30]) fun (k27, c28, k29, c30) => (pullD (α := Nat × (List D) × Nat × (List D) × Int) (m_14 [.agg [.list k27 c28, .list k29 c30]]) (fun d => ((D.ln (D.at (D.at d 0) 0)), (D.lc (D.at (D.at d 0) 0)), (D.ln (D.at (D.at d 0) 1)), (D.lc (D.at (D.at d 0) 1)), (D.vi (D.at d 1)))) (fun (k31, c32, k33, c34, r35) => .tup [.agg [.list k31 c32, .list k33 c34], iD r35]) fun (k31, c32, k33, c34, r35) => (pullD (α := Nat × (List D) × Nat × (List D)) (m_11 [.agg [.list ka ca, .list kb cb]]) (fun d => ((D.ln (D.at d 0)), (D.lc (D.at d 0)), (D.ln (D.at d 1)), (D.lc (D.at d 1)))) (fun (k36, c37, k38, c39) => .agg [.list k36 c37, .list k38 c39]) fun (k36, c37, k38, c39) => (pullD (α := Int × Int) (m_15 [.agg [.list k36 c37, .list k38 c39], iD n]) (fun d => ((D.vi (D.at d 0)), (D.vi (D.at d 1)))) (fun (r40, r41) => .tup [iD r40, iD r41]) fun (r40, r41) => (pullD (α := Int) (m_16 [.agg [.list ka ca, .list kb cb]]) (fun d => ((D.vi d))) (fun r42 => iD r42) fun r42 => (pullD (α := Nat × (List D) × Nat × (List D)) (m_11 [.agg [.list ka ca, .list kb cb]]) (fun d => ((D.ln (D.at d 0)), (D.lc (D.at d 0)), (D.ln (D.at d 1)), (D.lc (D.at d 1)))) (fun (k43, c44, k45, c46) => .agg [.list k43 c44, .list k45 c46]) fun (k43, c44, k45, c46) => (pullD (α := Int) (m_17 [.agg [.list k43 c44, .list k45 c46]]) (fun d => ((D.vi d))) (fun r47 => iD r47) fun r47 => ((if r47 ≠ r42 then some (.one (.bool false)) else (if r42 ≠ (0 : Int) then (if r8 = r42 then (if r17 = r42 then (if r26 = r42 then (if r35 = r42 then (if r41 = r42 then (if (k6 : Int) = (0 : Int) then pullD (α := Bool) (m_18 [.agg [.list k13 c14, .list k15 c16]]) (fun d => ((D.vb d))) (fun r48 => .one (.bool r48)) fun r48 => ((if (r48) = true then pullD (α := Bool) (m_18 [.agg [.list k22 c23, .list k24 c25]]) (fun d => ((D.vb d))) (fun r49 => .one (.bool r49)) fun r49 => ((if (r49) = true then pullD (α := Bool) (m_18 [.agg [.list k31 c32, .list k33 c34]]) (fun d => ((D.vb d))) (fun r50 => .one (.bool r50)) fun r50 => ((if (r50) = true then some (.one (.bool (r40 == (0 : Int)))) else some (.one (.bool false)))) else some (.one (.bool false)))) else some (.one (.bool false)))) else some (.one (.bool false))) else some (.one (.bool false))) else some (.one (.bool false))) else some (.one (.bool false))) else some (.one (.bool false))) else some (.one (.bool false))) else (if r8 ≠ (0 : Int) then some (.one (.bool false)) else pullD (α := Nat × (List D)) (m_20 [.agg [.list ka ca, .list kb cb]]) (fun d => ((D.ln d), (D.lc d))) (fun (k51, c52) => .list k51 c52) fun (k51, c52) => (pullD (α := Bool) (m_19 [.list k6 c7, .list k51 c52]) (fun d => ((D.vb d))) (fun r53 => .one (.bool r53)) fun r53 => ((if r53 = false then some (.one (.bool false)) else (if r17 ≠ (0 : Int) then some (.one (.bool false)) else pullD (α := Nat × (List D) × Nat × (List D)) (m_22 [.agg [.list ka ca, .list kb cb]]) (fun d => ((D.ln (D.at d 0)), (D.lc (D.at d 0)), (D.ln (D.at d 1)), (D.lc (D.at d 1)))) (fun (k54, c55, k56, c57) => .agg [.list k54 c55, .list k56 c57]) fun (k54, c55, k56, c57) => (pullD (α := Bool) (m_21 [.agg [.list k13 c14, .list k15 c16], .agg [.list k54 c55, .list k56 c57]]) (fun d => ((D.vb d))) (fun r58 => .one (.bool r58)) fun r58 => ((if r58 = false then some (.one (.bool false)) else (if r26 ≠ (0 : Int) then some (.one (.bool false)) else pullD (α := Nat × (List D) × Nat × (List D)) (m_23 [.agg [.list ka ca, .list kb cb]]) (fun d => ((D.ln (D.at d 0)), (D.lc (D.at d 0)), (D.ln (D.at d 1)), (D.lc (D.at d 1)))) (fun (k59, c60, k61, c62) => .agg [.list k59 c60, .list k61 c62]) fun (k59, c60, k61, c62) => (pullD (α := Bool) (m_21 [.agg [.list k22 c23, .list k24 c25], .agg [.list k59 c60, .list k61 c62]]) (fun d => ((D.vb d))) (fun r63 => .one (.bool r63)) fun r63 => ((if r63 = false then some (.one (.bool false)) else (if r35 ≠ (0 : Int) then some (.one (.bool false)) else pullD (α := Nat × (List D) × Nat × (List D)) (m_24 [.agg [.list ka ca, .list kb cb]]) (fun d => ((D.ln (D.at d 0)), (D.lc (D.at d 0)), (D.ln (D.at d 1)), (D.lc (D.at d 1)))) (fun (k64, c65, k66, c67) => .agg [.list k64 c65, .list k66 c67]) fun (k64, c65, k66, c67) => (pullD (α := Bool) (m_21 [.agg [.list k31 c32, .list k33 c34], .agg [.list k64 c65, .list k66 c67]]) (fun d => ((D.vb d))) (fun r68 => .one (.bool r68)) fun r68 => ((if r68 = false then some (.one (.bool false)) else pullD (α := Bool) (m_25 [iD n, iD (0 : Int), iD (3 : Int)]) (fun d => ((D.vb d))) (fun r69 => .one (.bool r69)) fun r69 => ((if r69 = false then (if r41 = (15 : Int) then some (.one (.bool (r40 == (0 : Int)))) else some (.one (.bool false))) else (if r41 = (0 : Int) then pullD (α := Int) (m_26 [.agg [.list ka ca, .list kb cb], iD n]) (fun d => ((D.vi d))) (fun r70 => iD r70) fun r70 => (some (.one (.bool (r40 == r70)))) else some (.one (.bool false))))))))))))))))))))))))))))))))))))))
def law3_M (ka : Nat) (ca : List D) (kb : Nat) (cb : List D) (n : Int) : Option D := pullD (α := Bool) (m_8 []) (fun d => ((D.vb d))) (fun r0 => .one (.bool r0)) fun r0 => ((if r0 = false then some (.one (.bool false)) else law3_M_s0 ka ca kb cb n r0))
theorem law3_M_s0_ok (ka : Nat) (ca : List D) (kb : Nat) (cb : List D) (n : Int) (r0 : Bool) (f1_ : Con 8 [] (.one (.bool r0))) (b5_ : r0 = true) {r : D} (h : law3_M_s0 ka ca kb cb n r0 = some r) : Con 3 [.agg [.list ka ca, .list kb cb], iD n] r := by
  unfold law3_M_s0 at h
  obtain ⟨r1, fq1_, hq2_⟩ := pullD_elim h
  replace fq1_ := m_9_ok fq1_
  by_cases bq3_ : r1 = false
  · have hq4_ := (if_pos bq3_).symm.trans hq2_
    obtain rfl := Option.some.inj hq4_
    exact con_pc (op := true) (I := [3]) (sp := law3_sp) 3000 (bF 1 (bT 1 [])) [.one (.bool r0), .one (.bool r1)] [c_nn b5_, c_no bq3_] [k_c f1_, k_c fq1_] (by kernel_rfl)
  have hq4_ := (if_neg bq3_).symm.trans hq2_
  have bq5_ : r1 = true := by first | exact bq3_ | simpa using bq3_
  obtain ⟨⟨k2, c3, k4, c5⟩, fq6_, hq7_⟩ := pullD_elim hq4_
  replace fq6_ := m_11_ok fq6_
  obtain ⟨⟨k6, c7, r8⟩, fq8_, hq9_⟩ := pullD_elim hq7_
  replace fq8_ := m_10_ok fq8_
  obtain ⟨⟨k9, c10, k11, c12⟩, fq10_, hq11_⟩ := pullD_elim hq9_
  replace fq10_ := m_11_ok fq10_
  obtain ⟨⟨k13, c14, k15, c16, r17⟩, fq12_, hq13_⟩ := pullD_elim hq11_
  replace fq12_ := m_12_ok fq12_
  obtain ⟨⟨k18, c19, k20, c21⟩, fq14_, hq15_⟩ := pullD_elim hq13_
  replace fq14_ := m_11_ok fq14_
  obtain ⟨⟨k22, c23, k24, c25, r26⟩, fq16_, hq17_⟩ := pullD_elim hq15_
  replace fq16_ := m_13_ok fq16_
  obtain ⟨⟨k27, c28, k29, c30⟩, fq18_, hq19_⟩ := pullD_elim hq17_
  replace fq18_ := m_11_ok fq18_
  obtain ⟨⟨k31, c32, k33, c34, r35⟩, fq20_, hq21_⟩ := pullD_elim hq19_
  replace fq20_ := m_14_ok fq20_
  obtain ⟨⟨k36, c37, k38, c39⟩, fq22_, hq23_⟩ := pullD_elim hq21_
  replace fq22_ := m_11_ok fq22_
  obtain ⟨⟨r40, r41⟩, fq24_, hq25_⟩ := pullD_elim hq23_
  replace fq24_ := m_15_ok fq24_
  obtain ⟨r42, fq26_, hq27_⟩ := pullD_elim hq25_
  replace fq26_ := m_16_ok fq26_
  obtain ⟨⟨k43, c44, k45, c46⟩, fq28_, hq29_⟩ := pullD_elim hq27_
  replace fq28_ := m_11_ok fq28_
  obtain ⟨r47, fq30_, hq31_⟩ := pullD_elim hq29_
  replace fq30_ := m_17_ok fq30_
  by_cases bq32_ : r47 ≠ r42
  · have hq33_ := (if_pos bq32_).symm.trans hq31_
    obtain rfl := Option.some.inj hq33_
    exact con_pc (op := true) (I := [3]) (sp := law3_sp) 3000 (bF 2 (bT 1 [])) [.one (.bool r0), .one (.bool r1), .agg [.list k2 c3, .list k4 c5], .tup [.list k6 c7, iD r8], .agg [.list k9 c10, .list k11 c12], .tup [.agg [.list k13 c14, .list k15 c16], iD r17], .agg [.list k18 c19, .list k20 c21], .tup [.agg [.list k22 c23, .list k24 c25], iD r26], .agg [.list k27 c28, .list k29 c30], .tup [.agg [.list k31 c32, .list k33 c34], iD r35], .agg [.list k36 c37, .list k38 c39], .tup [iD r40, iD r41], iD r42, .agg [.list k43 c44, .list k45 c46], iD r47] [c_nn b5_, c_nn bq5_, c_b bq32_] [k_c f1_, k_c fq1_, k_c fq6_, k_c fq8_, k_c fq10_, k_c fq12_, k_c fq14_, k_c fq16_, k_c fq18_, k_c fq20_, k_c fq22_, k_c fq24_, k_c fq26_, k_c fq28_, k_c fq30_] (by kernel_rfl)
  have hq33_ := (if_neg bq32_).symm.trans hq31_
  have bq34_ : r47 = r42 := by first | exact bq32_ | simpa using bq32_
  by_cases bq35_ : r42 ≠ (0 : Int)
  · have hq36_ := (if_pos bq35_).symm.trans hq33_
    by_cases bq37_ : r8 = r42
    · have hq38_ := (if_pos bq37_).symm.trans hq36_
      by_cases bq39_ : r17 = r42
      · have hq40_ := (if_pos bq39_).symm.trans hq38_
        by_cases bq41_ : r26 = r42
        · have hq42_ := (if_pos bq41_).symm.trans hq40_
          by_cases bq43_ : r35 = r42
          · have hq44_ := (if_pos bq43_).symm.trans hq42_
            by_cases bq45_ : r41 = r42
            · have hq46_ := (if_pos bq45_).symm.trans hq44_
              by_cases bq47_ : (k6 : Int) = (0 : Int)
              · have hq48_ := (if_pos bq47_).symm.trans hq46_
                obtain ⟨r48, fq49_, hq50_⟩ := pullD_elim hq48_
                replace fq49_ := m_18_ok fq49_
                by_cases bq51_ : (r48) = true
                · have hq52_ := (if_pos bq51_).symm.trans hq50_
                  obtain ⟨r49, fq53_, hq54_⟩ := pullD_elim hq52_
                  replace fq53_ := m_18_ok fq53_
                  by_cases bq55_ : (r49) = true
                  · have hq56_ := (if_pos bq55_).symm.trans hq54_
                    obtain ⟨r50, fq57_, hq58_⟩ := pullD_elim hq56_
                    replace fq57_ := m_18_ok fq57_
                    by_cases bq59_ : (r50) = true
                    · have hq60_ := (if_pos bq59_).symm.trans hq58_
                      obtain rfl := Option.some.inj hq60_
                      exact con_pc (op := true) (I := [3]) (sp := law3_sp) 3000 (bF 3 (bT 33 [])) [.one (.bool r0), .one (.bool r1), .agg [.list k2 c3, .list k4 c5], .tup [.list k6 c7, iD r8], .agg [.list k9 c10, .list k11 c12], .tup [.agg [.list k13 c14, .list k15 c16], iD r17], .agg [.list k18 c19, .list k20 c21], .tup [.agg [.list k22 c23, .list k24 c25], iD r26], .agg [.list k27 c28, .list k29 c30], .tup [.agg [.list k31 c32, .list k33 c34], iD r35], .agg [.list k36 c37, .list k38 c39], .tup [iD r40, iD r41], iD r42, .agg [.list k43 c44, .list k45 c46], iD r47, .one (.bool r48), .one (.bool r49), .one (.bool r50)] [c_nn b5_, c_nn bq5_, c_bn bq34_, c_b bq35_, c_e bq37_, c_e bq37_, c_e bq37_, c_e bq37_, c_e bq39_, c_e bq39_, c_e bq39_, c_e bq39_, c_e bq41_, c_e bq41_, c_e bq41_, c_e bq41_, c_e bq43_, c_e bq43_, c_e bq43_, c_e bq43_, c_e bq45_, c_e bq45_, c_e bq45_, c_e bq45_, c_e bq47_, c_e bq47_, c_e bq47_, c_q bq51_, c_q bq51_, c_q bq51_, c_q bq55_, c_q bq55_, c_q bq55_, c_q bq59_, c_q bq59_, c_q bq59_] [k_c f1_, k_c fq1_, k_c fq6_, k_c fq8_, k_c fq10_, k_c fq12_, k_c fq14_, k_c fq16_, k_c fq18_, k_c fq20_, k_c fq22_, k_c fq24_, k_c fq26_, k_c fq28_, k_c fq30_, k_c fq49_, k_c fq53_, k_c fq57_] (by kernel_rfl)
                    have hq60_ := (if_neg bq59_).symm.trans hq58_
                    have bq61_ : (r50) = false := by first | exact bq59_ | simpa using bq59_
                    obtain rfl := Option.some.inj hq60_
                    exact con_pc (op := true) (I := [3]) (sp := law3_sp) 3000 (bF 3 (bT 30 (bF 3 []))) [.one (.bool r0), .one (.bool r1), .agg [.list k2 c3, .list k4 c5], .tup [.list k6 c7, iD r8], .agg [.list k9 c10, .list k11 c12], .tup [.agg [.list k13 c14, .list k15 c16], iD r17], .agg [.list k18 c19, .list k20 c21], .tup [.agg [.list k22 c23, .list k24 c25], iD r26], .agg [.list k27 c28, .list k29 c30], .tup [.agg [.list k31 c32, .list k33 c34], iD r35], .agg [.list k36 c37, .list k38 c39], .tup [iD r40, iD r41], iD r42, .agg [.list k43 c44, .list k45 c46], iD r47, .one (.bool r48), .one (.bool r49), .one (.bool r50)] [c_nn b5_, c_nn bq5_, c_bn bq34_, c_b bq35_, c_e bq37_, c_e bq37_, c_e bq37_, c_e bq37_, c_e bq39_, c_e bq39_, c_e bq39_, c_e bq39_, c_e bq41_, c_e bq41_, c_e bq41_, c_e bq41_, c_e bq43_, c_e bq43_, c_e bq43_, c_e bq43_, c_e bq45_, c_e bq45_, c_e bq45_, c_e bq45_, c_e bq47_, c_e bq47_, c_e bq47_, c_q bq51_, c_q bq51_, c_q bq51_, c_q bq55_, c_q bq55_, c_q bq55_, c_q bq61_, c_q bq61_, c_q bq61_] [k_c f1_, k_c fq1_, k_c fq6_, k_c fq8_, k_c fq10_, k_c fq12_, k_c fq14_, k_c fq16_, k_c fq18_, k_c fq20_, k_c fq22_, k_c fq24_, k_c fq26_, k_c fq28_, k_c fq30_, k_c fq49_, k_c fq53_, k_c fq57_] (by kernel_rfl)
                  have hq56_ := (if_neg bq55_).symm.trans hq54_
                  have bq62_ : (r49) = false := by first | exact bq55_ | simpa using bq55_
                  obtain rfl := Option.some.inj hq56_
                  exact con_pc (op := true) (I := [3]) (sp := law3_sp) 3000 (bF 3 (bT 27 (bF 6 []))) [.one (.bool r0), .one (.bool r1), .agg [.list k2 c3, .list k4 c5], .tup [.list k6 c7, iD r8], .agg [.list k9 c10, .list k11 c12], .tup [.agg [.list k13 c14, .list k15 c16], iD r17], .agg [.list k18 c19, .list k20 c21], .tup [.agg [.list k22 c23, .list k24 c25], iD r26], .agg [.list k27 c28, .list k29 c30], .tup [.agg [.list k31 c32, .list k33 c34], iD r35], .agg [.list k36 c37, .list k38 c39], .tup [iD r40, iD r41], iD r42, .agg [.list k43 c44, .list k45 c46], iD r47, .one (.bool r48), .one (.bool r49)] [c_nn b5_, c_nn bq5_, c_bn bq34_, c_b bq35_, c_e bq37_, c_e bq37_, c_e bq37_, c_e bq37_, c_e bq39_, c_e bq39_, c_e bq39_, c_e bq39_, c_e bq41_, c_e bq41_, c_e bq41_, c_e bq41_, c_e bq43_, c_e bq43_, c_e bq43_, c_e bq43_, c_e bq45_, c_e bq45_, c_e bq45_, c_e bq45_, c_e bq47_, c_e bq47_, c_e bq47_, c_q bq51_, c_q bq51_, c_q bq51_, c_q bq62_, c_q bq62_, c_q bq62_, c_F, c_F, c_F] [k_c f1_, k_c fq1_, k_c fq6_, k_c fq8_, k_c fq10_, k_c fq12_, k_c fq14_, k_c fq16_, k_c fq18_, k_c fq20_, k_c fq22_, k_c fq24_, k_c fq26_, k_c fq28_, k_c fq30_, k_c fq49_, k_c fq53_] (by kernel_rfl)
                have hq52_ := (if_neg bq51_).symm.trans hq50_
                have bq63_ : (r48) = false := by first | exact bq51_ | simpa using bq51_
                obtain rfl := Option.some.inj hq52_
                exact con_pc (op := true) (I := [3]) (sp := law3_sp) 3000 (bF 3 (bT 24 (bF 9 []))) [.one (.bool r0), .one (.bool r1), .agg [.list k2 c3, .list k4 c5], .tup [.list k6 c7, iD r8], .agg [.list k9 c10, .list k11 c12], .tup [.agg [.list k13 c14, .list k15 c16], iD r17], .agg [.list k18 c19, .list k20 c21], .tup [.agg [.list k22 c23, .list k24 c25], iD r26], .agg [.list k27 c28, .list k29 c30], .tup [.agg [.list k31 c32, .list k33 c34], iD r35], .agg [.list k36 c37, .list k38 c39], .tup [iD r40, iD r41], iD r42, .agg [.list k43 c44, .list k45 c46], iD r47, .one (.bool r48)] [c_nn b5_, c_nn bq5_, c_bn bq34_, c_b bq35_, c_e bq37_, c_e bq37_, c_e bq37_, c_e bq37_, c_e bq39_, c_e bq39_, c_e bq39_, c_e bq39_, c_e bq41_, c_e bq41_, c_e bq41_, c_e bq41_, c_e bq43_, c_e bq43_, c_e bq43_, c_e bq43_, c_e bq45_, c_e bq45_, c_e bq45_, c_e bq45_, c_e bq47_, c_e bq47_, c_e bq47_, c_q bq63_, c_q bq63_, c_q bq63_, c_F, c_F, c_F, c_F, c_F, c_F] [k_c f1_, k_c fq1_, k_c fq6_, k_c fq8_, k_c fq10_, k_c fq12_, k_c fq14_, k_c fq16_, k_c fq18_, k_c fq20_, k_c fq22_, k_c fq24_, k_c fq26_, k_c fq28_, k_c fq30_, k_c fq49_] (by kernel_rfl)
              have hq48_ := (if_neg bq47_).symm.trans hq46_
              have bq64_ : (k6 : Int) ≠ (0 : Int) := by first | exact bq47_ | simpa using bq47_
              obtain rfl := Option.some.inj hq48_
              exact con_pc (op := true) (I := [3]) (sp := law3_sp) 3000 (bF 3 (bT 21 (bF 12 []))) [.one (.bool r0), .one (.bool r1), .agg [.list k2 c3, .list k4 c5], .tup [.list k6 c7, iD r8], .agg [.list k9 c10, .list k11 c12], .tup [.agg [.list k13 c14, .list k15 c16], iD r17], .agg [.list k18 c19, .list k20 c21], .tup [.agg [.list k22 c23, .list k24 c25], iD r26], .agg [.list k27 c28, .list k29 c30], .tup [.agg [.list k31 c32, .list k33 c34], iD r35], .agg [.list k36 c37, .list k38 c39], .tup [iD r40, iD r41], iD r42, .agg [.list k43 c44, .list k45 c46], iD r47] [c_nn b5_, c_nn bq5_, c_bn bq34_, c_b bq35_, c_e bq37_, c_e bq37_, c_e bq37_, c_e bq37_, c_e bq39_, c_e bq39_, c_e bq39_, c_e bq39_, c_e bq41_, c_e bq41_, c_e bq41_, c_e bq41_, c_e bq43_, c_e bq43_, c_e bq43_, c_e bq43_, c_e bq45_, c_e bq45_, c_e bq45_, c_e bq45_, c_en bq64_, c_en bq64_, c_en bq64_, c_F, c_F, c_F, c_F, c_F, c_F, c_F, c_F, c_F] [k_c f1_, k_c fq1_, k_c fq6_, k_c fq8_, k_c fq10_, k_c fq12_, k_c fq14_, k_c fq16_, k_c fq18_, k_c fq20_, k_c fq22_, k_c fq24_, k_c fq26_, k_c fq28_, k_c fq30_] (by kernel_rfl)
            have hq46_ := (if_neg bq45_).symm.trans hq44_
            have bq65_ : r41 ≠ r42 := by first | exact bq45_ | simpa using bq45_
            obtain rfl := Option.some.inj hq46_
            exact con_pc (op := true) (I := [3]) (sp := law3_sp) 3000 (bF 3 (bT 17 (bF 16 []))) [.one (.bool r0), .one (.bool r1), .agg [.list k2 c3, .list k4 c5], .tup [.list k6 c7, iD r8], .agg [.list k9 c10, .list k11 c12], .tup [.agg [.list k13 c14, .list k15 c16], iD r17], .agg [.list k18 c19, .list k20 c21], .tup [.agg [.list k22 c23, .list k24 c25], iD r26], .agg [.list k27 c28, .list k29 c30], .tup [.agg [.list k31 c32, .list k33 c34], iD r35], .agg [.list k36 c37, .list k38 c39], .tup [iD r40, iD r41], iD r42, .agg [.list k43 c44, .list k45 c46], iD r47] [c_nn b5_, c_nn bq5_, c_bn bq34_, c_b bq35_, c_e bq37_, c_e bq37_, c_e bq37_, c_e bq37_, c_e bq39_, c_e bq39_, c_e bq39_, c_e bq39_, c_e bq41_, c_e bq41_, c_e bq41_, c_e bq41_, c_e bq43_, c_e bq43_, c_e bq43_, c_e bq43_, c_en bq65_, c_en bq65_, c_en bq65_, c_en bq65_, c_F, c_F, c_F, c_F, c_F, c_F, c_F, c_F, c_F, c_F, c_F, c_F] [k_c f1_, k_c fq1_, k_c fq6_, k_c fq8_, k_c fq10_, k_c fq12_, k_c fq14_, k_c fq16_, k_c fq18_, k_c fq20_, k_c fq22_, k_c fq24_, k_c fq26_, k_c fq28_, k_c fq30_] (by kernel_rfl)
          have hq44_ := (if_neg bq43_).symm.trans hq42_
          have bq66_ : r35 ≠ r42 := by first | exact bq43_ | simpa using bq43_
          obtain rfl := Option.some.inj hq44_
          exact con_pc (op := true) (I := [3]) (sp := law3_sp) 3000 (bF 3 (bT 13 (bF 20 []))) [.one (.bool r0), .one (.bool r1), .agg [.list k2 c3, .list k4 c5], .tup [.list k6 c7, iD r8], .agg [.list k9 c10, .list k11 c12], .tup [.agg [.list k13 c14, .list k15 c16], iD r17], .agg [.list k18 c19, .list k20 c21], .tup [.agg [.list k22 c23, .list k24 c25], iD r26], .agg [.list k27 c28, .list k29 c30], .tup [.agg [.list k31 c32, .list k33 c34], iD r35], .agg [.list k36 c37, .list k38 c39], .tup [iD r40, iD r41], iD r42, .agg [.list k43 c44, .list k45 c46], iD r47] [c_nn b5_, c_nn bq5_, c_bn bq34_, c_b bq35_, c_e bq37_, c_e bq37_, c_e bq37_, c_e bq37_, c_e bq39_, c_e bq39_, c_e bq39_, c_e bq39_, c_e bq41_, c_e bq41_, c_e bq41_, c_e bq41_, c_en bq66_, c_en bq66_, c_en bq66_, c_en bq66_, c_F, c_F, c_F, c_F, c_F, c_F, c_F, c_F, c_F, c_F, c_F, c_F, c_F, c_F, c_F, c_F] [k_c f1_, k_c fq1_, k_c fq6_, k_c fq8_, k_c fq10_, k_c fq12_, k_c fq14_, k_c fq16_, k_c fq18_, k_c fq20_, k_c fq22_, k_c fq24_, k_c fq26_, k_c fq28_, k_c fq30_] (by kernel_rfl)
        have hq42_ := (if_neg bq41_).symm.trans hq40_
        have bq67_ : r26 ≠ r42 := by first | exact bq41_ | simpa using bq41_
        obtain rfl := Option.some.inj hq42_
        exact con_pc (op := true) (I := [3]) (sp := law3_sp) 3000 (bF 3 (bT 9 (bF 24 []))) [.one (.bool r0), .one (.bool r1), .agg [.list k2 c3, .list k4 c5], .tup [.list k6 c7, iD r8], .agg [.list k9 c10, .list k11 c12], .tup [.agg [.list k13 c14, .list k15 c16], iD r17], .agg [.list k18 c19, .list k20 c21], .tup [.agg [.list k22 c23, .list k24 c25], iD r26], .agg [.list k27 c28, .list k29 c30], .tup [.agg [.list k31 c32, .list k33 c34], iD r35], .agg [.list k36 c37, .list k38 c39], .tup [iD r40, iD r41], iD r42, .agg [.list k43 c44, .list k45 c46], iD r47] [c_nn b5_, c_nn bq5_, c_bn bq34_, c_b bq35_, c_e bq37_, c_e bq37_, c_e bq37_, c_e bq37_, c_e bq39_, c_e bq39_, c_e bq39_, c_e bq39_, c_en bq67_, c_en bq67_, c_en bq67_, c_en bq67_, c_F, c_F, c_F, c_F, c_F, c_F, c_F, c_F, c_F, c_F, c_F, c_F, c_F, c_F, c_F, c_F, c_F, c_F, c_F, c_F] [k_c f1_, k_c fq1_, k_c fq6_, k_c fq8_, k_c fq10_, k_c fq12_, k_c fq14_, k_c fq16_, k_c fq18_, k_c fq20_, k_c fq22_, k_c fq24_, k_c fq26_, k_c fq28_, k_c fq30_] (by kernel_rfl)
      have hq40_ := (if_neg bq39_).symm.trans hq38_
      have bq68_ : r17 ≠ r42 := by first | exact bq39_ | simpa using bq39_
      obtain rfl := Option.some.inj hq40_
      exact con_pc (op := true) (I := [3]) (sp := law3_sp) 3000 (bF 3 (bT 5 (bF 28 []))) [.one (.bool r0), .one (.bool r1), .agg [.list k2 c3, .list k4 c5], .tup [.list k6 c7, iD r8], .agg [.list k9 c10, .list k11 c12], .tup [.agg [.list k13 c14, .list k15 c16], iD r17], .agg [.list k18 c19, .list k20 c21], .tup [.agg [.list k22 c23, .list k24 c25], iD r26], .agg [.list k27 c28, .list k29 c30], .tup [.agg [.list k31 c32, .list k33 c34], iD r35], .agg [.list k36 c37, .list k38 c39], .tup [iD r40, iD r41], iD r42, .agg [.list k43 c44, .list k45 c46], iD r47] [c_nn b5_, c_nn bq5_, c_bn bq34_, c_b bq35_, c_e bq37_, c_e bq37_, c_e bq37_, c_e bq37_, c_en bq68_, c_en bq68_, c_en bq68_, c_en bq68_, c_F, c_F, c_F, c_F, c_F, c_F, c_F, c_F, c_F, c_F, c_F, c_F, c_F, c_F, c_F, c_F, c_F, c_F, c_F, c_F, c_F, c_F, c_F, c_F] [k_c f1_, k_c fq1_, k_c fq6_, k_c fq8_, k_c fq10_, k_c fq12_, k_c fq14_, k_c fq16_, k_c fq18_, k_c fq20_, k_c fq22_, k_c fq24_, k_c fq26_, k_c fq28_, k_c fq30_] (by kernel_rfl)
    have hq38_ := (if_neg bq37_).symm.trans hq36_
    have bq69_ : r8 ≠ r42 := by first | exact bq37_ | simpa using bq37_
    obtain rfl := Option.some.inj hq38_
    exact con_pc (op := true) (I := [3]) (sp := law3_sp) 3000 (bF 3 (bT 1 (bF 32 []))) [.one (.bool r0), .one (.bool r1), .agg [.list k2 c3, .list k4 c5], .tup [.list k6 c7, iD r8], .agg [.list k9 c10, .list k11 c12], .tup [.agg [.list k13 c14, .list k15 c16], iD r17], .agg [.list k18 c19, .list k20 c21], .tup [.agg [.list k22 c23, .list k24 c25], iD r26], .agg [.list k27 c28, .list k29 c30], .tup [.agg [.list k31 c32, .list k33 c34], iD r35], .agg [.list k36 c37, .list k38 c39], .tup [iD r40, iD r41], iD r42, .agg [.list k43 c44, .list k45 c46], iD r47] [c_nn b5_, c_nn bq5_, c_bn bq34_, c_b bq35_, c_en bq69_, c_en bq69_, c_en bq69_, c_en bq69_, c_F, c_F, c_F, c_F, c_F, c_F, c_F, c_F, c_F, c_F, c_F, c_F, c_F, c_F, c_F, c_F, c_F, c_F, c_F, c_F, c_F, c_F, c_F, c_F, c_F, c_F, c_F, c_F] [k_c f1_, k_c fq1_, k_c fq6_, k_c fq8_, k_c fq10_, k_c fq12_, k_c fq14_, k_c fq16_, k_c fq18_, k_c fq20_, k_c fq22_, k_c fq24_, k_c fq26_, k_c fq28_, k_c fq30_] (by kernel_rfl)
  have hq36_ := (if_neg bq35_).symm.trans hq33_
  have bq70_ : r42 = (0 : Int) := by first | exact bq35_ | simpa using bq35_
  by_cases bq71_ : r8 ≠ (0 : Int)
  · have hq72_ := (if_pos bq71_).symm.trans hq36_
    obtain rfl := Option.some.inj hq72_
    exact con_pc (op := true) (I := [3]) (sp := law3_sp) 3000 (bF 4 (bT 34 [])) [.one (.bool r0), .one (.bool r1), .agg [.list k2 c3, .list k4 c5], .tup [.list k6 c7, iD r8], .agg [.list k9 c10, .list k11 c12], .tup [.agg [.list k13 c14, .list k15 c16], iD r17], .agg [.list k18 c19, .list k20 c21], .tup [.agg [.list k22 c23, .list k24 c25], iD r26], .agg [.list k27 c28, .list k29 c30], .tup [.agg [.list k31 c32, .list k33 c34], iD r35], .agg [.list k36 c37, .list k38 c39], .tup [iD r40, iD r41], iD r42, .agg [.list k43 c44, .list k45 c46], iD r47] [c_nn b5_, c_nn bq5_, c_bn bq34_, c_bn bq70_, c_b bq71_, c_b bq71_, c_b bq71_, c_b bq71_, c_b bq71_, c_b bq71_, c_T, c_T, c_T, c_T, c_T, c_T, c_T, c_T, c_T, c_T, c_T, c_T, c_T, c_T, c_T, c_T, c_T, c_T, c_T, c_T, c_T, c_T, c_T, c_T, c_T, c_T, c_T, c_T] [k_c f1_, k_c fq1_, k_c fq6_, k_c fq8_, k_c fq10_, k_c fq12_, k_c fq14_, k_c fq16_, k_c fq18_, k_c fq20_, k_c fq22_, k_c fq24_, k_c fq26_, k_c fq28_, k_c fq30_] (by kernel_rfl)
  have hq72_ := (if_neg bq71_).symm.trans hq36_
  have bq73_ : r8 = (0 : Int) := by first | exact bq71_ | simpa using bq71_
  obtain ⟨⟨k51, c52⟩, fq74_, hq75_⟩ := pullD_elim hq72_
  replace fq74_ := m_20_ok fq74_
  obtain ⟨r53, fq76_, hq77_⟩ := pullD_elim hq75_
  replace fq76_ := m_19_ok fq76_
  by_cases bq78_ : r53 = false
  · have hq79_ := (if_pos bq78_).symm.trans hq77_
    obtain rfl := Option.some.inj hq79_
    exact con_pc (op := true) (I := [3]) (sp := law3_sp) 3000 (bF 10 (bT 28 [])) [.one (.bool r0), .one (.bool r1), .agg [.list k2 c3, .list k4 c5], .tup [.list k6 c7, iD r8], .agg [.list k9 c10, .list k11 c12], .tup [.agg [.list k13 c14, .list k15 c16], iD r17], .agg [.list k18 c19, .list k20 c21], .tup [.agg [.list k22 c23, .list k24 c25], iD r26], .agg [.list k27 c28, .list k29 c30], .tup [.agg [.list k31 c32, .list k33 c34], iD r35], .agg [.list k36 c37, .list k38 c39], .tup [iD r40, iD r41], iD r42, .agg [.list k43 c44, .list k45 c46], iD r47, .list k51 c52, .one (.bool r53)] [c_nn b5_, c_nn bq5_, c_bn bq34_, c_bn bq70_, c_bn bq73_, c_bn bq73_, c_bn bq73_, c_bn bq73_, c_bn bq73_, c_bn bq73_, c_no bq78_, c_no bq78_, c_no bq78_, c_T, c_T, c_T, c_T, c_T, c_T, c_T, c_T, c_T, c_T, c_T, c_T, c_T, c_T, c_T, c_T, c_T, c_T, c_T, c_T, c_T, c_T, c_T, c_T, c_T] [k_c f1_, k_c fq1_, k_c fq6_, k_c fq8_, k_c fq10_, k_c fq12_, k_c fq14_, k_c fq16_, k_c fq18_, k_c fq20_, k_c fq22_, k_c fq24_, k_c fq26_, k_c fq28_, k_c fq30_, k_c fq74_, k_c fq76_] (by kernel_rfl)
  have hq79_ := (if_neg bq78_).symm.trans hq77_
  have bq80_ : r53 = true := by first | exact bq78_ | simpa using bq78_
  by_cases bq81_ : r17 ≠ (0 : Int)
  · have hq82_ := (if_pos bq81_).symm.trans hq79_
    obtain rfl := Option.some.inj hq82_
    exact con_pc (op := true) (I := [3]) (sp := law3_sp) 3000 (bF 13 (bT 25 [])) [.one (.bool r0), .one (.bool r1), .agg [.list k2 c3, .list k4 c5], .tup [.list k6 c7, iD r8], .agg [.list k9 c10, .list k11 c12], .tup [.agg [.list k13 c14, .list k15 c16], iD r17], .agg [.list k18 c19, .list k20 c21], .tup [.agg [.list k22 c23, .list k24 c25], iD r26], .agg [.list k27 c28, .list k29 c30], .tup [.agg [.list k31 c32, .list k33 c34], iD r35], .agg [.list k36 c37, .list k38 c39], .tup [iD r40, iD r41], iD r42, .agg [.list k43 c44, .list k45 c46], iD r47, .list k51 c52, .one (.bool r53)] [c_nn b5_, c_nn bq5_, c_bn bq34_, c_bn bq70_, c_bn bq73_, c_bn bq73_, c_bn bq73_, c_bn bq73_, c_bn bq73_, c_bn bq73_, c_nn bq80_, c_nn bq80_, c_nn bq80_, c_b bq81_, c_b bq81_, c_b bq81_, c_b bq81_, c_b bq81_, c_b bq81_, c_T, c_T, c_T, c_T, c_T, c_T, c_T, c_T, c_T, c_T, c_T, c_T, c_T, c_T, c_T, c_T, c_T, c_T, c_T] [k_c f1_, k_c fq1_, k_c fq6_, k_c fq8_, k_c fq10_, k_c fq12_, k_c fq14_, k_c fq16_, k_c fq18_, k_c fq20_, k_c fq22_, k_c fq24_, k_c fq26_, k_c fq28_, k_c fq30_, k_c fq74_, k_c fq76_] (by kernel_rfl)
  have hq82_ := (if_neg bq81_).symm.trans hq79_
  have bq83_ : r17 = (0 : Int) := by first | exact bq81_ | simpa using bq81_
  obtain ⟨⟨k54, c55, k56, c57⟩, fq84_, hq85_⟩ := pullD_elim hq82_
  replace fq84_ := m_22_ok fq84_
  obtain ⟨r58, fq86_, hq87_⟩ := pullD_elim hq85_
  replace fq86_ := m_21_ok fq86_
  by_cases bq88_ : r58 = false
  · have hq89_ := (if_pos bq88_).symm.trans hq87_
    obtain rfl := Option.some.inj hq89_
    exact con_pc (op := true) (I := [3]) (sp := law3_sp) 3000 (bF 19 (bT 19 [])) [.one (.bool r0), .one (.bool r1), .agg [.list k2 c3, .list k4 c5], .tup [.list k6 c7, iD r8], .agg [.list k9 c10, .list k11 c12], .tup [.agg [.list k13 c14, .list k15 c16], iD r17], .agg [.list k18 c19, .list k20 c21], .tup [.agg [.list k22 c23, .list k24 c25], iD r26], .agg [.list k27 c28, .list k29 c30], .tup [.agg [.list k31 c32, .list k33 c34], iD r35], .agg [.list k36 c37, .list k38 c39], .tup [iD r40, iD r41], iD r42, .agg [.list k43 c44, .list k45 c46], iD r47, .list k51 c52, .one (.bool r53), .agg [.list k54 c55, .list k56 c57], .one (.bool r58)] [c_nn b5_, c_nn bq5_, c_bn bq34_, c_bn bq70_, c_bn bq73_, c_bn bq73_, c_bn bq73_, c_bn bq73_, c_bn bq73_, c_bn bq73_, c_nn bq80_, c_nn bq80_, c_nn bq80_, c_bn bq83_, c_bn bq83_, c_bn bq83_, c_bn bq83_, c_bn bq83_, c_bn bq83_, c_no bq88_, c_no bq88_, c_no bq88_, c_T, c_T, c_T, c_T, c_T, c_T, c_T, c_T, c_T, c_T, c_T, c_T, c_T, c_T, c_T, c_T] [k_c f1_, k_c fq1_, k_c fq6_, k_c fq8_, k_c fq10_, k_c fq12_, k_c fq14_, k_c fq16_, k_c fq18_, k_c fq20_, k_c fq22_, k_c fq24_, k_c fq26_, k_c fq28_, k_c fq30_, k_c fq74_, k_c fq76_, k_c fq84_, k_c fq86_] (by kernel_rfl)
  have hq89_ := (if_neg bq88_).symm.trans hq87_
  have bq90_ : r58 = true := by first | exact bq88_ | simpa using bq88_
  by_cases bq91_ : r26 ≠ (0 : Int)
  · have hq92_ := (if_pos bq91_).symm.trans hq89_
    obtain rfl := Option.some.inj hq92_
    exact con_pc (op := true) (I := [3]) (sp := law3_sp) 3000 (bF 22 (bT 16 [])) [.one (.bool r0), .one (.bool r1), .agg [.list k2 c3, .list k4 c5], .tup [.list k6 c7, iD r8], .agg [.list k9 c10, .list k11 c12], .tup [.agg [.list k13 c14, .list k15 c16], iD r17], .agg [.list k18 c19, .list k20 c21], .tup [.agg [.list k22 c23, .list k24 c25], iD r26], .agg [.list k27 c28, .list k29 c30], .tup [.agg [.list k31 c32, .list k33 c34], iD r35], .agg [.list k36 c37, .list k38 c39], .tup [iD r40, iD r41], iD r42, .agg [.list k43 c44, .list k45 c46], iD r47, .list k51 c52, .one (.bool r53), .agg [.list k54 c55, .list k56 c57], .one (.bool r58)] [c_nn b5_, c_nn bq5_, c_bn bq34_, c_bn bq70_, c_bn bq73_, c_bn bq73_, c_bn bq73_, c_bn bq73_, c_bn bq73_, c_bn bq73_, c_nn bq80_, c_nn bq80_, c_nn bq80_, c_bn bq83_, c_bn bq83_, c_bn bq83_, c_bn bq83_, c_bn bq83_, c_bn bq83_, c_nn bq90_, c_nn bq90_, c_nn bq90_, c_b bq91_, c_b bq91_, c_b bq91_, c_b bq91_, c_b bq91_, c_b bq91_, c_T, c_T, c_T, c_T, c_T, c_T, c_T, c_T, c_T, c_T] [k_c f1_, k_c fq1_, k_c fq6_, k_c fq8_, k_c fq10_, k_c fq12_, k_c fq14_, k_c fq16_, k_c fq18_, k_c fq20_, k_c fq22_, k_c fq24_, k_c fq26_, k_c fq28_, k_c fq30_, k_c fq74_, k_c fq76_, k_c fq84_, k_c fq86_] (by kernel_rfl)
  have hq92_ := (if_neg bq91_).symm.trans hq89_
  have bq93_ : r26 = (0 : Int) := by first | exact bq91_ | simpa using bq91_
  obtain ⟨⟨k59, c60, k61, c62⟩, fq94_, hq95_⟩ := pullD_elim hq92_
  replace fq94_ := m_23_ok fq94_
  obtain ⟨r63, fq96_, hq97_⟩ := pullD_elim hq95_
  replace fq96_ := m_21_ok fq96_
  by_cases bq98_ : r63 = false
  · have hq99_ := (if_pos bq98_).symm.trans hq97_
    obtain rfl := Option.some.inj hq99_
    exact con_pc (op := true) (I := [3]) (sp := law3_sp) 3000 (bF 28 (bT 10 [])) [.one (.bool r0), .one (.bool r1), .agg [.list k2 c3, .list k4 c5], .tup [.list k6 c7, iD r8], .agg [.list k9 c10, .list k11 c12], .tup [.agg [.list k13 c14, .list k15 c16], iD r17], .agg [.list k18 c19, .list k20 c21], .tup [.agg [.list k22 c23, .list k24 c25], iD r26], .agg [.list k27 c28, .list k29 c30], .tup [.agg [.list k31 c32, .list k33 c34], iD r35], .agg [.list k36 c37, .list k38 c39], .tup [iD r40, iD r41], iD r42, .agg [.list k43 c44, .list k45 c46], iD r47, .list k51 c52, .one (.bool r53), .agg [.list k54 c55, .list k56 c57], .one (.bool r58), .agg [.list k59 c60, .list k61 c62], .one (.bool r63)] [c_nn b5_, c_nn bq5_, c_bn bq34_, c_bn bq70_, c_bn bq73_, c_bn bq73_, c_bn bq73_, c_bn bq73_, c_bn bq73_, c_bn bq73_, c_nn bq80_, c_nn bq80_, c_nn bq80_, c_bn bq83_, c_bn bq83_, c_bn bq83_, c_bn bq83_, c_bn bq83_, c_bn bq83_, c_nn bq90_, c_nn bq90_, c_nn bq90_, c_bn bq93_, c_bn bq93_, c_bn bq93_, c_bn bq93_, c_bn bq93_, c_bn bq93_, c_no bq98_, c_no bq98_, c_no bq98_, c_T, c_T, c_T, c_T, c_T, c_T, c_T] [k_c f1_, k_c fq1_, k_c fq6_, k_c fq8_, k_c fq10_, k_c fq12_, k_c fq14_, k_c fq16_, k_c fq18_, k_c fq20_, k_c fq22_, k_c fq24_, k_c fq26_, k_c fq28_, k_c fq30_, k_c fq74_, k_c fq76_, k_c fq84_, k_c fq86_, k_c fq94_, k_c fq96_] (by kernel_rfl)
  have hq99_ := (if_neg bq98_).symm.trans hq97_
  have bq100_ : r63 = true := by first | exact bq98_ | simpa using bq98_
  by_cases bq101_ : r35 ≠ (0 : Int)
  · have hq102_ := (if_pos bq101_).symm.trans hq99_
    obtain rfl := Option.some.inj hq102_
    exact con_pc (op := true) (I := [3]) (sp := law3_sp) 3000 (bF 31 (bT 7 [])) [.one (.bool r0), .one (.bool r1), .agg [.list k2 c3, .list k4 c5], .tup [.list k6 c7, iD r8], .agg [.list k9 c10, .list k11 c12], .tup [.agg [.list k13 c14, .list k15 c16], iD r17], .agg [.list k18 c19, .list k20 c21], .tup [.agg [.list k22 c23, .list k24 c25], iD r26], .agg [.list k27 c28, .list k29 c30], .tup [.agg [.list k31 c32, .list k33 c34], iD r35], .agg [.list k36 c37, .list k38 c39], .tup [iD r40, iD r41], iD r42, .agg [.list k43 c44, .list k45 c46], iD r47, .list k51 c52, .one (.bool r53), .agg [.list k54 c55, .list k56 c57], .one (.bool r58), .agg [.list k59 c60, .list k61 c62], .one (.bool r63)] [c_nn b5_, c_nn bq5_, c_bn bq34_, c_bn bq70_, c_bn bq73_, c_bn bq73_, c_bn bq73_, c_bn bq73_, c_bn bq73_, c_bn bq73_, c_nn bq80_, c_nn bq80_, c_nn bq80_, c_bn bq83_, c_bn bq83_, c_bn bq83_, c_bn bq83_, c_bn bq83_, c_bn bq83_, c_nn bq90_, c_nn bq90_, c_nn bq90_, c_bn bq93_, c_bn bq93_, c_bn bq93_, c_bn bq93_, c_bn bq93_, c_bn bq93_, c_nn bq100_, c_nn bq100_, c_nn bq100_, c_b bq101_, c_b bq101_, c_b bq101_, c_b bq101_, c_b bq101_, c_b bq101_, c_T] [k_c f1_, k_c fq1_, k_c fq6_, k_c fq8_, k_c fq10_, k_c fq12_, k_c fq14_, k_c fq16_, k_c fq18_, k_c fq20_, k_c fq22_, k_c fq24_, k_c fq26_, k_c fq28_, k_c fq30_, k_c fq74_, k_c fq76_, k_c fq84_, k_c fq86_, k_c fq94_, k_c fq96_] (by kernel_rfl)
  have hq102_ := (if_neg bq101_).symm.trans hq99_
  have bq103_ : r35 = (0 : Int) := by first | exact bq101_ | simpa using bq101_
  obtain ⟨⟨k64, c65, k66, c67⟩, fq104_, hq105_⟩ := pullD_elim hq102_
  replace fq104_ := m_24_ok fq104_
  obtain ⟨r68, fq106_, hq107_⟩ := pullD_elim hq105_
  replace fq106_ := m_21_ok fq106_
  by_cases bq108_ : r68 = false
  · have hq109_ := (if_pos bq108_).symm.trans hq107_
    obtain rfl := Option.some.inj hq109_
    exact con_pc (op := true) (I := [3]) (sp := law3_sp) 3000 (bF 37 (bT 1 [])) [.one (.bool r0), .one (.bool r1), .agg [.list k2 c3, .list k4 c5], .tup [.list k6 c7, iD r8], .agg [.list k9 c10, .list k11 c12], .tup [.agg [.list k13 c14, .list k15 c16], iD r17], .agg [.list k18 c19, .list k20 c21], .tup [.agg [.list k22 c23, .list k24 c25], iD r26], .agg [.list k27 c28, .list k29 c30], .tup [.agg [.list k31 c32, .list k33 c34], iD r35], .agg [.list k36 c37, .list k38 c39], .tup [iD r40, iD r41], iD r42, .agg [.list k43 c44, .list k45 c46], iD r47, .list k51 c52, .one (.bool r53), .agg [.list k54 c55, .list k56 c57], .one (.bool r58), .agg [.list k59 c60, .list k61 c62], .one (.bool r63), .agg [.list k64 c65, .list k66 c67], .one (.bool r68)] [c_nn b5_, c_nn bq5_, c_bn bq34_, c_bn bq70_, c_bn bq73_, c_bn bq73_, c_bn bq73_, c_bn bq73_, c_bn bq73_, c_bn bq73_, c_nn bq80_, c_nn bq80_, c_nn bq80_, c_bn bq83_, c_bn bq83_, c_bn bq83_, c_bn bq83_, c_bn bq83_, c_bn bq83_, c_nn bq90_, c_nn bq90_, c_nn bq90_, c_bn bq93_, c_bn bq93_, c_bn bq93_, c_bn bq93_, c_bn bq93_, c_bn bq93_, c_nn bq100_, c_nn bq100_, c_nn bq100_, c_bn bq103_, c_bn bq103_, c_bn bq103_, c_bn bq103_, c_bn bq103_, c_bn bq103_, c_no bq108_] [k_c f1_, k_c fq1_, k_c fq6_, k_c fq8_, k_c fq10_, k_c fq12_, k_c fq14_, k_c fq16_, k_c fq18_, k_c fq20_, k_c fq22_, k_c fq24_, k_c fq26_, k_c fq28_, k_c fq30_, k_c fq74_, k_c fq76_, k_c fq84_, k_c fq86_, k_c fq94_, k_c fq96_, k_c fq104_, k_c fq106_] (by kernel_rfl)
  have hq109_ := (if_neg bq108_).symm.trans hq107_
  have bq110_ : r68 = true := by first | exact bq108_ | simpa using bq108_
  obtain ⟨r69, fq111_, hq112_⟩ := pullD_elim hq109_
  replace fq111_ := m_25_ok fq111_
  by_cases bq113_ : r69 = false
  · have hq114_ := (if_pos bq113_).symm.trans hq112_
    by_cases bq115_ : r41 = (15 : Int)
    · have hq116_ := (if_pos bq115_).symm.trans hq114_
      obtain rfl := Option.some.inj hq116_
      exact con_pc (op := true) (I := [3]) (sp := law3_sp) 3000 (bF 38 (bT 4 [])) [.one (.bool r0), .one (.bool r1), .agg [.list k2 c3, .list k4 c5], .tup [.list k6 c7, iD r8], .agg [.list k9 c10, .list k11 c12], .tup [.agg [.list k13 c14, .list k15 c16], iD r17], .agg [.list k18 c19, .list k20 c21], .tup [.agg [.list k22 c23, .list k24 c25], iD r26], .agg [.list k27 c28, .list k29 c30], .tup [.agg [.list k31 c32, .list k33 c34], iD r35], .agg [.list k36 c37, .list k38 c39], .tup [iD r40, iD r41], iD r42, .agg [.list k43 c44, .list k45 c46], iD r47, .list k51 c52, .one (.bool r53), .agg [.list k54 c55, .list k56 c57], .one (.bool r58), .agg [.list k59 c60, .list k61 c62], .one (.bool r63), .agg [.list k64 c65, .list k66 c67], .one (.bool r68), .one (.bool r69)] [c_nn b5_, c_nn bq5_, c_bn bq34_, c_bn bq70_, c_bn bq73_, c_bn bq73_, c_bn bq73_, c_bn bq73_, c_bn bq73_, c_bn bq73_, c_nn bq80_, c_nn bq80_, c_nn bq80_, c_bn bq83_, c_bn bq83_, c_bn bq83_, c_bn bq83_, c_bn bq83_, c_bn bq83_, c_nn bq90_, c_nn bq90_, c_nn bq90_, c_bn bq93_, c_bn bq93_, c_bn bq93_, c_bn bq93_, c_bn bq93_, c_bn bq93_, c_nn bq100_, c_nn bq100_, c_nn bq100_, c_bn bq103_, c_bn bq103_, c_bn bq103_, c_bn bq103_, c_bn bq103_, c_bn bq103_, c_nn bq110_, c_no bq113_, c_e bq115_, c_e bq115_, c_e bq115_] [k_c f1_, k_c fq1_, k_c fq6_, k_c fq8_, k_c fq10_, k_c fq12_, k_c fq14_, k_c fq16_, k_c fq18_, k_c fq20_, k_c fq22_, k_c fq24_, k_c fq26_, k_c fq28_, k_c fq30_, k_c fq74_, k_c fq76_, k_c fq84_, k_c fq86_, k_c fq94_, k_c fq96_, k_c fq104_, k_c fq106_, k_c fq111_] (by kernel_rfl)
    have hq116_ := (if_neg bq115_).symm.trans hq114_
    have bq117_ : r41 ≠ (15 : Int) := by first | exact bq115_ | simpa using bq115_
    obtain rfl := Option.some.inj hq116_
    exact con_pc (op := true) (I := [3]) (sp := law3_sp) 3000 (bF 38 (bT 1 (bF 3 []))) [.one (.bool r0), .one (.bool r1), .agg [.list k2 c3, .list k4 c5], .tup [.list k6 c7, iD r8], .agg [.list k9 c10, .list k11 c12], .tup [.agg [.list k13 c14, .list k15 c16], iD r17], .agg [.list k18 c19, .list k20 c21], .tup [.agg [.list k22 c23, .list k24 c25], iD r26], .agg [.list k27 c28, .list k29 c30], .tup [.agg [.list k31 c32, .list k33 c34], iD r35], .agg [.list k36 c37, .list k38 c39], .tup [iD r40, iD r41], iD r42, .agg [.list k43 c44, .list k45 c46], iD r47, .list k51 c52, .one (.bool r53), .agg [.list k54 c55, .list k56 c57], .one (.bool r58), .agg [.list k59 c60, .list k61 c62], .one (.bool r63), .agg [.list k64 c65, .list k66 c67], .one (.bool r68), .one (.bool r69)] [c_nn b5_, c_nn bq5_, c_bn bq34_, c_bn bq70_, c_bn bq73_, c_bn bq73_, c_bn bq73_, c_bn bq73_, c_bn bq73_, c_bn bq73_, c_nn bq80_, c_nn bq80_, c_nn bq80_, c_bn bq83_, c_bn bq83_, c_bn bq83_, c_bn bq83_, c_bn bq83_, c_bn bq83_, c_nn bq90_, c_nn bq90_, c_nn bq90_, c_bn bq93_, c_bn bq93_, c_bn bq93_, c_bn bq93_, c_bn bq93_, c_bn bq93_, c_nn bq100_, c_nn bq100_, c_nn bq100_, c_bn bq103_, c_bn bq103_, c_bn bq103_, c_bn bq103_, c_bn bq103_, c_bn bq103_, c_nn bq110_, c_no bq113_, c_en bq117_, c_en bq117_, c_en bq117_] [k_c f1_, k_c fq1_, k_c fq6_, k_c fq8_, k_c fq10_, k_c fq12_, k_c fq14_, k_c fq16_, k_c fq18_, k_c fq20_, k_c fq22_, k_c fq24_, k_c fq26_, k_c fq28_, k_c fq30_, k_c fq74_, k_c fq76_, k_c fq84_, k_c fq86_, k_c fq94_, k_c fq96_, k_c fq104_, k_c fq106_, k_c fq111_] (by kernel_rfl)
  have hq114_ := (if_neg bq113_).symm.trans hq112_
  have bq118_ : r69 = true := by first | exact bq113_ | simpa using bq113_
  by_cases bq119_ : r41 = (0 : Int)
  · have hq120_ := (if_pos bq119_).symm.trans hq114_
    obtain ⟨r70, fq121_, hq122_⟩ := pullD_elim hq120_
    replace fq121_ := m_26_ok fq121_
    obtain rfl := Option.some.inj hq122_
    exact con_pc (op := true) (I := [3]) (sp := law3_sp) 3000 (bF 39 (bT 6 [])) [.one (.bool r0), .one (.bool r1), .agg [.list k2 c3, .list k4 c5], .tup [.list k6 c7, iD r8], .agg [.list k9 c10, .list k11 c12], .tup [.agg [.list k13 c14, .list k15 c16], iD r17], .agg [.list k18 c19, .list k20 c21], .tup [.agg [.list k22 c23, .list k24 c25], iD r26], .agg [.list k27 c28, .list k29 c30], .tup [.agg [.list k31 c32, .list k33 c34], iD r35], .agg [.list k36 c37, .list k38 c39], .tup [iD r40, iD r41], iD r42, .agg [.list k43 c44, .list k45 c46], iD r47, .list k51 c52, .one (.bool r53), .agg [.list k54 c55, .list k56 c57], .one (.bool r58), .agg [.list k59 c60, .list k61 c62], .one (.bool r63), .agg [.list k64 c65, .list k66 c67], .one (.bool r68), .one (.bool r69), iD r70] [c_nn b5_, c_nn bq5_, c_bn bq34_, c_bn bq70_, c_bn bq73_, c_bn bq73_, c_bn bq73_, c_bn bq73_, c_bn bq73_, c_bn bq73_, c_nn bq80_, c_nn bq80_, c_nn bq80_, c_bn bq83_, c_bn bq83_, c_bn bq83_, c_bn bq83_, c_bn bq83_, c_bn bq83_, c_nn bq90_, c_nn bq90_, c_nn bq90_, c_bn bq93_, c_bn bq93_, c_bn bq93_, c_bn bq93_, c_bn bq93_, c_bn bq93_, c_nn bq100_, c_nn bq100_, c_nn bq100_, c_bn bq103_, c_bn bq103_, c_bn bq103_, c_bn bq103_, c_bn bq103_, c_bn bq103_, c_nn bq110_, c_nn bq118_, c_e bq119_, c_e bq119_, c_e bq119_, c_e bq119_, c_e bq119_, c_e bq119_] [k_c f1_, k_c fq1_, k_c fq6_, k_c fq8_, k_c fq10_, k_c fq12_, k_c fq14_, k_c fq16_, k_c fq18_, k_c fq20_, k_c fq22_, k_c fq24_, k_c fq26_, k_c fq28_, k_c fq30_, k_c fq74_, k_c fq76_, k_c fq84_, k_c fq86_, k_c fq94_, k_c fq96_, k_c fq104_, k_c fq106_, k_c fq111_, k_c fq121_] (by kernel_rfl)
  have hq120_ := (if_neg bq119_).symm.trans hq114_
  have bq123_ : r41 ≠ (0 : Int) := by first | exact bq119_ | simpa using bq119_
  obtain rfl := Option.some.inj hq120_
  exact con_pc (op := true) (I := [3]) (sp := law3_sp) 3000 (bF 45 []) [.one (.bool r0), .one (.bool r1), .agg [.list k2 c3, .list k4 c5], .tup [.list k6 c7, iD r8], .agg [.list k9 c10, .list k11 c12], .tup [.agg [.list k13 c14, .list k15 c16], iD r17], .agg [.list k18 c19, .list k20 c21], .tup [.agg [.list k22 c23, .list k24 c25], iD r26], .agg [.list k27 c28, .list k29 c30], .tup [.agg [.list k31 c32, .list k33 c34], iD r35], .agg [.list k36 c37, .list k38 c39], .tup [iD r40, iD r41], iD r42, .agg [.list k43 c44, .list k45 c46], iD r47, .list k51 c52, .one (.bool r53), .agg [.list k54 c55, .list k56 c57], .one (.bool r58), .agg [.list k59 c60, .list k61 c62], .one (.bool r63), .agg [.list k64 c65, .list k66 c67], .one (.bool r68), .one (.bool r69)] [c_nn b5_, c_nn bq5_, c_bn bq34_, c_bn bq70_, c_bn bq73_, c_bn bq73_, c_bn bq73_, c_bn bq73_, c_bn bq73_, c_bn bq73_, c_nn bq80_, c_nn bq80_, c_nn bq80_, c_bn bq83_, c_bn bq83_, c_bn bq83_, c_bn bq83_, c_bn bq83_, c_bn bq83_, c_nn bq90_, c_nn bq90_, c_nn bq90_, c_bn bq93_, c_bn bq93_, c_bn bq93_, c_bn bq93_, c_bn bq93_, c_bn bq93_, c_nn bq100_, c_nn bq100_, c_nn bq100_, c_bn bq103_, c_bn bq103_, c_bn bq103_, c_bn bq103_, c_bn bq103_, c_bn bq103_, c_nn bq110_, c_nn bq118_, c_en bq123_, c_en bq123_, c_en bq123_, c_en bq123_, c_en bq123_, c_en bq123_] [k_c f1_, k_c fq1_, k_c fq6_, k_c fq8_, k_c fq10_, k_c fq12_, k_c fq14_, k_c fq16_, k_c fq18_, k_c fq20_, k_c fq22_, k_c fq24_, k_c fq26_, k_c fq28_, k_c fq30_, k_c fq74_, k_c fq76_, k_c fq84_, k_c fq86_, k_c fq94_, k_c fq96_, k_c fq104_, k_c fq106_, k_c fq111_] (by kernel_rfl)
theorem law3_M_ok (ka : Nat) (ca : List D) (kb : Nat) (cb : List D) (n : Int) {r : D} (h : law3_M ka ca kb cb n = some r) : Con 3 [.agg [.list ka ca, .list kb cb], iD n] r := by
  unfold law3_M at h
  obtain ⟨r0, f1_, h2_⟩ := pullD_elim h
  replace f1_ := m_8_ok f1_
  by_cases b3_ : r0 = false
  · have h4_ := (if_pos b3_).symm.trans h2_
    obtain rfl := Option.some.inj h4_
    exact con_pc (op := true) (I := [3]) (sp := law3_sp) 3000 (bT 1 []) [.one (.bool r0)] [c_no b3_] [k_c f1_] (by kernel_rfl)
  have h4_ := (if_neg b3_).symm.trans h2_
  have b5_ : r0 = true := by first | exact b3_ | simpa using b3_
  exact law3_M_s0_ok ka ca kb cb n r0 f1_ b5_ h4_
def m_3 (ds : List D) : Option D := pullD (α := Nat × (List D) × Nat × (List D) × Int) (some (.tup ds)) (fun d => ((D.ln (D.at (D.at d 0) 0)), (D.lc (D.at (D.at d 0) 0)), (D.ln (D.at (D.at d 0) 1)), (D.lc (D.at (D.at d 0) 1)), (D.vi (D.at d 1)))) (fun (ka, ca, kb, cb, n) => .tup [.agg [.list ka ca, .list kb cb], iD n]) fun (ka, ca, kb, cb, n) => law3_M ka ca kb cb n
theorem m_3_ok {ds : List D} {r : D} (h : m_3 ds = some r) : Con 3 ds r := by
  unfold m_3 at h
  obtain ⟨⟨ka, ca, kb, cb, n⟩, e0, h0⟩ := pullD_elim h
  obtain rfl := tup_inj e0
  exact law3_M_ok ka ca kb cb n h0
theorem m_3_eq (ka : Nat) (ca : List D) (kb : Nat) (cb : List D) (n : Int) : m_3 [.agg [.list ka ca, .list kb cb], iD n] = law3_M ka ca kb cb n := pullD_some (ka, ca, kb, cb, n) rfl rfl
end
end Go.Proofs.Ytbfefnfmdkgfjaa
/- Windows: what the specification reckons; the law. -/
namespace Go.Proofs.Ytbfefnfmdkgfjaa
open Go.Ev Go.RowKit
set_option maxRecDepth 100000
theorem pullD_not {α β : Type} {d : D} {proj : D → α} {pat : α → D} {k : α → Option β} (h : pat (proj d) ≠ d) : pullD (some d) proj pat k = none := by
  unfold pullD
  simp only [h, if_false]
theorem big_eq (x y : Int) : (if x > y then x else y) = max y x := by split <;> omega
section
variable {a b : List Int}
/-- A loop in which a list grows by what is reckoned. -/
theorem residR_eq (h : Win a b) : m_20 [wnD a b] = some (lD (tab (a.length + 1) (rs a b))) := by
  have hle := h.le
  have hlen := h.len
  rw [m_20_eq]
  unfold residR_M
  have h1 : runR (residR_L3_S a.length (a.map iD) b.length (b.map iD)) (.next 0 [.list 1 [iD 0], iD 0]) = _ := runR_scan (S := residR_L3_S a.length (a.map iD) b.length (b.map iD)) (fun _ => 0) (fun i => [lD (tab (i + 1) (rs a b)), iD (i : Int)]) (Nat.zero_le a.length) (fun i _ hi => by
    show residR_L3_S0 a.length (a.map iD) b.length (b.map iD) _ = _
    unfold residR_L3_S0
    rw [pullD_some ((tab (i + 1) (rs a b)).length, (tab (i + 1) (rs a b)).map iD, (i : Int)) (by rfl) (by rfl)]
    dsimp only
    have q0 := rs_bound h (k := i) (by omega)
    have q1 := rs_bound h (k := i + 1) (by omega)
    have q2 := h.ra i
    have q3 := h.rb i
    have e1 : rs a b (i + 1) = rs a b i + (at' a i + at' b i) := rfl
    have e2 : IntKind.i64.wrap ((i : Int) + 1) = ((i + 1 : Nat) : Int) := natI (by omega)
    simp only [e2, Int.toNat_natCast]
    rw [if_pos (by omega), guardP_pos (by rw [tab_len]; omega), readM0 _ (by omega), pullD_some (rs a b i) (by rfl) (by rfl), guardP_pos (by omega), readN hi, pullD_some (at' a i) (by rfl) (by rfl), guardP_pos (by omega), readN (by omega), pullD_some (at' b i) (by rfl) (by rfl),
      wrapJ (rs a b i + at' a i) (by omega) (by omega), wrapJ (rs a b i + at' a i + at' b i) (by omega) (by omega), show rs a b i + at' a i + at' b i = rs a b (i + 1) by omega,
      guardP_pos ⟨cellD_int _, by simp, by simp only [tab_len]; omega, by simp only [tab_len]; omega⟩, grow_list, ← tab_succ])
  have h2 : runR (residR_L3_S a.length (a.map iD) b.length (b.map iD)) (.next 0 [lD (tab (a.length + 1) (rs a b)), iD (a.length : Int)]) = some (.out 0 [lD (tab (a.length + 1) (rs a b))]) := runR_exit (by
    show residR_L3_S0 a.length (a.map iD) b.length (b.map iD) _ = _
    unfold residR_L3_S0
    rw [pullD_some ((tab (a.length + 1) (rs a b)).length, (tab (a.length + 1) (rs a b)).map iD, (a.length : Int)) (by rfl) (by rfl)]
    dsimp only
    rw [if_neg (by omega)])
  rw [bindL_some (h1.trans h2), if_pos rfl, pullD_some ((tab (a.length + 1) (rs a b)).length, (tab (a.length + 1) (rs a b)).map iD) (by rfl) (by rfl)]
  dsimp only
  rw [guardP_pos ⟨by simp, by omega⟩]
theorem axialR1_eq (h : Win a b) {t : List Int} (htl : t.length = a.length) (ht : ∀ i, -100 ≤ at' t i ∧ at' t i ≤ 100) : m_53 [wnD a b, lD t] = some (lD (tab a.length (ax t a b))) := by
  have hle := h.le
  have hp := h.pos
  rw [m_53_eq]
  unfold axialR1_M
  rw [show [D.agg [D.list a.length (a.map iD), D.list b.length (b.map iD)]] = [wnD a b] from rfl, residR_eq h, pullD_some ((tab (a.length + 1) (rs a b)).length, (tab (a.length + 1) (rs a b)).map iD) (by rfl) (by rfl)]
  dsimp only
  obtain ⟨m, hm⟩ : ∃ m, a.length = m + 1 := ⟨a.length - 1, by omega⟩
  generalize hS : axialR1_L4_S a.length (a.map iD) b.length (b.map iD) t.length (t.map iD) (tab (a.length + 1) (rs a b)).length ((tab (a.length + 1) (rs a b)).map iD) = S
  have hs0 : ∀ ds, S (.next 0 ds) = axialR1_L4_S0 a.length (a.map iD) b.length (b.map iD) t.length (t.map iD) (tab (a.length + 1) (rs a b)).length ((tab (a.length + 1) (rs a b)).map iD) ds := fun ds => by rw [← hS]; rfl
  have hs1 : ∀ ds, S (.next 1 ds) = axialR1_L4_S1 a.length (a.map iD) b.length (b.map iD) t.length (t.map iD) (tab (a.length + 1) (rs a b)).length ((tab (a.length + 1) (rs a b)).map iD) ds := fun ds => by rw [← hS]; rfl
  have h1 : runR S (.next 1 [.one (.tuple #[]), iD 0]) = _ := runR_scan (S := S) (fun i => match i with | 0 => 1 | _ + 1 => 0)
    (fun i => match i with | 0 => [.one (.tuple #[]), iD 0] | i + 1 => [lD (tab (i + 1) (ax t a b)), iD ((i + 1 : Nat) : Int)]) (Nat.zero_le (m + 1)) (fun i _ hi => by
    replace hi : i < a.length := by omega
    have k1 := ax_wrap h ht (i := i) (by omega)
    cases i with
    | zero =>
      show S (.next 1 _) = _
      rw [hs1]
      unfold axialR1_L4_S1
      rw [pullD_some ((0 : Nat) : Int) (by rfl) (by rfl)]
      have e2 : IntKind.i64.wrap (((0 : Nat) : Int) + 1) = ((0 + 1 : Nat) : Int) := natI (by omega)
      simp only [e2, Int.toNat_natCast]
      rw [if_pos (by omega), guardP_pos (by omega), readN (by omega), pullD_some (at' t 0) (by rfl) (by rfl), guardP_pos (by rw [tab_len]; omega), readM _ (by omega), pullD_some (rs a b 0) (by rfl) (by rfl), guardP_pos (by rw [tab_len]; omega), readM _ (by omega), pullD_some (rs a b (0 + 1)) (by rfl) (by rfl), k1]
      rfl
    | succ i =>
      show S (.next 0 _) = _
      rw [hs0]
      unfold axialR1_L4_S0
      rw [pullD_some ((tab (i + 1) (ax t a b)).length, (tab (i + 1) (ax t a b)).map iD, ((i + 1 : Nat) : Int)) (by rfl) (by rfl)]
      dsimp only
      have e2 : IntKind.i64.wrap (((i + 1 : Nat) : Int) + 1) = ((i + 1 + 1 : Nat) : Int) := natI (by omega)
      simp only [e2, Int.toNat_natCast]
      rw [if_pos (by omega), guardP_pos (by omega), readN (by omega), pullD_some (at' t (i + 1)) (by rfl) (by rfl), guardP_pos (by rw [tab_len]; omega), readM _ (by omega), pullD_some (rs a b (i + 1)) (by rfl) (by rfl), guardP_pos (by rw [tab_len]; omega), readM _ (by omega), pullD_some (rs a b (i + 1 + 1)) (by rfl) (by rfl), k1,
        guardP_pos ⟨cellD_int _, by simp, by simp only [tab_len]; omega, by simp only [tab_len]; omega⟩, grow_list, ← tab_succ])
  have h4 : runR S (.next 0 [lD (tab (m + 1) (ax t a b)), iD ((m + 1 : Nat) : Int)]) = some (.out 0 [lD (tab (m + 1) (ax t a b))]) := runR_exit (by
    rw [hs0]
    unfold axialR1_L4_S0
    rw [pullD_some ((tab (m + 1) (ax t a b)).length, (tab (m + 1) (ax t a b)).map iD, ((m + 1 : Nat) : Int)) (by rfl) (by rfl)]
    dsimp only
    rw [if_neg (by omega)])
  rw [bindL_some (h1.trans h4), if_pos rfl, pullD_some ((tab (m + 1) (ax t a b)).length, (tab (m + 1) (ax t a b)).map iD) (by rfl) (by rfl)]
  dsimp only
  rw [guardP_pos ⟨by simp, by omega⟩, hm]
theorem axialR_eq (h : Win a b) : m_22 [wnD a b] = some (.agg [lD (tab a.length (ax a a b)), lD (tab a.length (ax b a b))]) := by
  rw [m_22_eq]
  unfold axialR_M
  rw [show [D.agg [D.list a.length (a.map iD), D.list b.length (b.map iD)], D.list a.length (a.map iD)] = [wnD a b, lD a] from rfl, axialR1_eq h rfl h.ra, pullD_some ((tab a.length (ax a a b)).length, (tab a.length (ax a a b)).map iD) (by rfl) (by rfl)]
  dsimp only
  rw [show [D.agg [D.list a.length (a.map iD), D.list b.length (b.map iD)], D.list b.length (b.map iD)] = [wnD a b, lD b] from rfl, axialR1_eq h h.len h.rb, pullD_some ((tab a.length (ax b a b)).length, (tab a.length (ax b a b)).map iD) (by rfl) (by rfl)]
theorem sumsR_eq (n : Nat) (f : Nat → Int) (hn : n ≤ 1000) (hb : ∀ k, k ≤ n → -1000000000000 ≤ sumTo f k ∧ sumTo f k ≤ 1000000000000) : m_54 [lD (tab n f)] = some (lD (tab (n + 1) (sumTo f))) := by
  rw [m_54_eq]
  unfold sumsR_M
  generalize hS : sumsR_L3_S (tab n f).length ((tab n f).map iD) = S
  have hs0 : ∀ ds, S (.next 0 ds) = sumsR_L3_S0 (tab n f).length ((tab n f).map iD) ds := fun ds => by rw [← hS]; rfl
  have h1 : runR S (.next 0 [.list 1 [iD 0], iD 0]) = _ := runR_scan (S := S) (fun _ => 0) (fun i => [lD (tab (i + 1) (sumTo f)), iD (i : Int)]) (Nat.zero_le n) (fun i _ hi => by
    show S (.next 0 _) = _
    rw [hs0]
    unfold sumsR_L3_S0
    rw [pullD_some ((tab (i + 1) (sumTo f)).length, (tab (i + 1) (sumTo f)).map iD, (i : Int)) (by rfl) (by rfl)]
    dsimp only
    have q1 := hb (i + 1) (by omega)
    have e1 : sumTo f (i + 1) = sumTo f i + f i := rfl
    have e2 : IntKind.i64.wrap ((i : Int) + 1) = ((i + 1 : Nat) : Int) := natI (by omega)
    simp only [e2, Int.toNat_natCast]
    rw [if_pos (by rw [tab_len]; omega), guardP_pos (by rw [tab_len]; omega), readM0 _ (by omega), pullD_some (sumTo f i) (by rfl) (by rfl), guardP_pos (by rw [tab_len]; omega), readM _ (by omega), pullD_some (f i) (by rfl) (by rfl),
      wrapJ (sumTo f i + f i) (by omega) (by omega), ← e1, guardP_pos ⟨cellD_int _, by simp, by simp only [tab_len]; omega, by simp only [tab_len]; omega⟩, grow_list, ← tab_succ])
  have h2 : runR S (.next 0 [lD (tab (n + 1) (sumTo f)), iD (n : Int)]) = some (.out 0 [lD (tab (n + 1) (sumTo f))]) := runR_exit (by
    rw [hs0]
    unfold sumsR_L3_S0
    rw [pullD_some ((tab (n + 1) (sumTo f)).length, (tab (n + 1) (sumTo f)).map iD, (n : Int)) (by rfl) (by rfl)]
    dsimp only
    rw [if_neg (by rw [tab_len]; omega)])
  rw [bindL_some (h1.trans h2), if_pos rfl, pullD_some ((tab (n + 1) (sumTo f)).length, (tab (n + 1) (sumTo f)).map iD) (by rfl) (by rfl)]
  dsimp only
  rw [guardP_pos ⟨by simp, by omega⟩]
theorem sumsR_ax (h : Win a b) {t : List Int} (ht : ∀ i, -100 ≤ at' t i ∧ at' t i ≤ 100) : m_54 [lD (tab a.length (ax t a b))] = some (lD (tab (a.length + 1) (th t a b))) := by
  have hle := h.le
  exact sumsR_eq _ _ (by omega) fun k hk => by
    have := th_bound h ht (k := k) (by omega)
    unfold th at this
    omega
theorem thrustsR_eq (h : Win a b) : m_23 [wnD a b] = some (.agg [lD (tab (a.length + 1) (th a a b)), lD (tab (a.length + 1) (th b a b))]) := by
  rw [m_23_eq]
  unfold thrustsR_M
  rw [show [D.agg [D.list a.length (a.map iD), D.list b.length (b.map iD)]] = [wnD a b] from rfl, axialR_eq h, pullD_some ((tab a.length (ax a a b)).length, (tab a.length (ax a a b)).map iD, (tab a.length (ax b a b)).length, (tab a.length (ax b a b)).map iD) (by rfl) (by rfl)]
  dsimp only
  rw [show [D.list (tab a.length (ax a a b)).length ((tab a.length (ax a a b)).map iD)] = [lD (tab a.length (ax a a b))] from rfl, sumsR_ax h h.ra, pullD_some ((tab (a.length + 1) (th a a b)).length, (tab (a.length + 1) (th a a b)).map iD) (by rfl) (by rfl)]
  dsimp only
  rw [show [D.list (tab a.length (ax b a b)).length ((tab a.length (ax b a b)).map iD)] = [lD (tab a.length (ax b a b))] from rfl, sumsR_ax h h.rb, pullD_some ((tab (a.length + 1) (th b a b)).length, (tab (a.length + 1) (th b a b)).map iD) (by rfl) (by rfl)]
theorem radialR_eq (h : Win a b) : m_24 [wnD a b] = some (.agg [lD (tab a.length (rx a b)), lD (tab a.length (ry a b))]) := by
  have hp := h.pos
  have hle := h.le
  have hlen := h.len
  rw [m_24_eq]
  unfold radialR_M
  obtain ⟨m, hm⟩ : ∃ m, a.length = m + 1 := ⟨a.length - 1, by omega⟩
  have key : ∀ i, i < a.length → IntKind.i64.wrap (at' a i * IntKind.i64.wrap (at' a i - at' b i)) = rx a b i ∧ IntKind.i64.wrap (IntKind.i64.wrap (0 - at' b i) * IntKind.i64.wrap (at' a i - at' b i)) = ry a b i := fun i hi => by
    have ha := h.ra i
    have hb := h.rb i
    have h1 := rx_bound h i
    have h2 := ry_bound h i
    rw [wrapJ (at' a i - at' b i) (by omega) (by omega), wrapJ (0 - at' b i) (by omega) (by omega), Int.zero_sub]
    exact ⟨wrapJ _ (by unfold rx at h1; omega) (by unfold rx at h1; omega), wrapJ _ (by unfold ry at h2; omega) (by unfold ry at h2; omega)⟩
  have h1 : runR (radialR_L3_S a.length (a.map iD) b.length (b.map iD)) (.next 3 [iD 0, .one (.tuple #[]), .one (.tuple #[])]) = _ := runR_scan (S := radialR_L3_S a.length (a.map iD) b.length (b.map iD)) (fun i => match i with | 0 => 3 | _ + 1 => 0)
    (fun i => match i with | 0 => [iD 0, .one (.tuple #[]), .one (.tuple #[])] | i + 1 => [iD ((i + 1 : Nat) : Int), lD (tab (i + 1) (rx a b)), lD (tab (i + 1) (ry a b))]) (Nat.zero_le (m + 1)) (fun i _ hi => by
    replace hi : i < a.length := by omega
    obtain ⟨k1, k2⟩ := key i hi
    cases i with
    | zero =>
      show radialR_L3_S3 a.length (a.map iD) b.length (b.map iD) _ = _
      unfold radialR_L3_S3
      rw [pullD_some ((0 : Nat) : Int) (by rfl) (by rfl)]
      have e2 : IntKind.i64.wrap (((0 : Nat) : Int) + 1) = ((0 + 1 : Nat) : Int) := natI (by omega)
      simp only [e2, Int.toNat_natCast]
      rw [if_pos (by omega), guardP_pos (by omega), readN hi, pullD_some (at' a 0) (by rfl) (by rfl), guardP_pos (by omega), readN (by omega), pullD_some (at' b 0) (by rfl) (by rfl), k1, k2]
      rfl
    | succ i =>
      show radialR_L3_S0 a.length (a.map iD) b.length (b.map iD) _ = _
      unfold radialR_L3_S0
      rw [pullD_some (((i + 1 : Nat) : Int), (tab (i + 1) (rx a b)).length, (tab (i + 1) (rx a b)).map iD, (tab (i + 1) (ry a b)).length, (tab (i + 1) (ry a b)).map iD) (by rfl) (by rfl)]
      dsimp only
      have e2 : IntKind.i64.wrap (((i + 1 : Nat) : Int) + 1) = ((i + 1 + 1 : Nat) : Int) := natI (by omega)
      simp only [e2, Int.toNat_natCast]
      rw [if_pos (by omega), guardP_pos (by omega), readN hi, pullD_some (at' a (i + 1)) (by rfl) (by rfl), guardP_pos (by omega), readN (by omega), pullD_some (at' b (i + 1)) (by rfl) (by rfl), k1, k2,
        guardP_pos ⟨cellD_int _, by simp, by simp only [tab_len]; omega, by simp only [tab_len]; omega⟩, guardP_pos ⟨cellD_int _, by simp, by simp only [tab_len]; omega, by simp only [tab_len]; omega⟩, grow_list, grow_list, ← tab_succ, ← tab_succ])
  have h2 : runR (radialR_L3_S a.length (a.map iD) b.length (b.map iD)) (.next 0 [iD ((m + 1 : Nat) : Int), lD (tab (m + 1) (rx a b)), lD (tab (m + 1) (ry a b))]) = some (.out 0 [lD (tab (m + 1) (rx a b)), lD (tab (m + 1) (ry a b))]) := runR_exit (by
    show radialR_L3_S0 a.length (a.map iD) b.length (b.map iD) _ = _
    unfold radialR_L3_S0
    rw [pullD_some (((m + 1 : Nat) : Int), (tab (m + 1) (rx a b)).length, (tab (m + 1) (rx a b)).map iD, (tab (m + 1) (ry a b)).length, (tab (m + 1) (ry a b)).map iD) (by rfl) (by rfl)]
    dsimp only
    rw [if_neg (by omega)])
  have h3 := h1.trans h2
  rw [bindL_some h3, if_pos rfl, pullD_some ((tab (m + 1) (rx a b)).length, (tab (m + 1) (rx a b)).map iD, (tab (m + 1) (ry a b)).length, (tab (m + 1) (ry a b)).map iD) (by rfl) (by rfl)]
  dsimp only
  rw [guardP_pos ⟨by simp, by omega⟩, guardP_pos ⟨by simp, by omega⟩, hm]
/-! A list is itself. -/
theorem ints_same (l : List Int) (hl : l.length ≤ 1000) : m_19 [lD l, lD l] = some (.one (.bool true)) := by
  rw [m_19_eq]
  unfold ints_M
  rw [if_neg (by simp)]
  have h1 : runR (ints_L4_S l.length (l.map iD) l.length (l.map iD)) (.next 0 [iD 0]) = _ := runR_scan (S := ints_L4_S l.length (l.map iD) l.length (l.map iD)) (fun _ => 0) (fun i => [iD (i : Int)]) (Nat.zero_le l.length) (fun i _ hi => by
    show ints_L4_S0 l.length (l.map iD) l.length (l.map iD) _ = _
    unfold ints_L4_S0
    rw [pullD_some (i : Int) (by rfl) (by rfl), if_pos (by omega), guardP_pos (by omega), readA hi, pullD_some (at' l i) (by rfl) (by rfl), guardP_pos (by omega), pullD_some (at' l i) (by rfl) (by rfl), if_neg (by simp), natI (by omega)])
  have h2 : runR (ints_L4_S l.length (l.map iD) l.length (l.map iD)) (.next 0 [iD (l.length : Int)]) = some (.out 0 []) := runR_exit (by
    show ints_L4_S0 l.length (l.map iD) l.length (l.map iD) _ = _
    unfold ints_L4_S0
    rw [pullD_some (l.length : Int) (by rfl) (by rfl), if_neg (by omega)])
  rw [bindL_some (h1.trans h2), if_pos rfl]
  exact pullD_some () (by rfl) (by rfl)
theorem same_eq (l k : List Int) (hl : l.length ≤ 1000) (hk : k.length ≤ 1000) : m_21 [.agg [lD l, lD k], .agg [lD l, lD k]] = some (.one (.bool true)) := by
  rw [m_21_eq]
  unfold sameF_M
  rw [show [D.list l.length (l.map iD), D.list l.length (l.map iD)] = [lD l, lD l] from rfl, ints_same l hl, pullB, if_pos rfl, show [D.list k.length (k.map iD), D.list k.length (k.map iD)] = [lD k, lD k] from rfl, ints_same k hk, pullB]
/-! The unit force of a kind. -/
theorem gS_eq (n : Nat) (f : Nat → Int) (hn : n ≤ 1000) (hf : ∀ i, i < n → -1000000000000 ≤ f i ∧ f i ≤ 1000000000000) : m_69 [lD (tab n f)] = some (iD (maxTo f n)) := by
  rw [m_69_eq]
  unfold gSize_M
  have h1 : runR (gSize_L3_S (tab n f).length ((tab n f).map iD)) (.next 0 [iD 0, iD 0]) = _ := runR_scan (S := gSize_L3_S (tab n f).length ((tab n f).map iD)) (fun _ => 0) (fun i => [iD (maxTo f i), iD (i : Int)]) (Nat.zero_le n) (fun i _ hi => by
    have := hf i hi
    show gSize_L3_S0 (tab n f).length ((tab n f).map iD) _ = _
    unfold gSize_L3_S0
    rw [pullD_some (maxTo f i, (i : Int)) (by rfl) (by rfl)]
    dsimp only
    rw [tab_len, if_pos (by omega), guardP_pos (by omega), readT f hi, pullD_some (f i) (by rfl) (by rfl), big_eq, big_eq, wrapJ (0 - f i) (by omega) (by omega), natI (by omega), Int.zero_sub]
    have : max (max (maxTo f i) (f i)) (-f i) = maxTo f (i + 1) := by
      have : maxTo f (i + 1) = max (maxTo f i) (max (f i) (-f i)) := rfl
      omega
    rw [this])
  have h2 : runR (gSize_L3_S (tab n f).length ((tab n f).map iD)) (.next 0 [iD (maxTo f n), iD (n : Int)]) = some (.out 0 [iD (maxTo f n)]) := runR_exit (by
    show gSize_L3_S0 (tab n f).length ((tab n f).map iD) _ = _
    unfold gSize_L3_S0
    rw [pullD_some (maxTo f n, (n : Int)) (by rfl) (by rfl)]
    dsimp only
    rw [tab_len, if_neg (by omega)])
  rw [bindL_some (h1.trans h2), if_pos rfl, pullD_some (maxTo f n) (by rfl) (by rfl)]
theorem size_eq (n : Int) (h1 : -1000000000000 ≤ n) (h2 : n ≤ 1000000000000) : m_55 [iD n] = some (iD (max n (-n))) := by
  rw [m_55_eq]
  unfold size_M
  rw [wrapJ (0 - n) (by omega) (by omega), big_eq, Int.zero_sub]
theorem uR_go (n : Nat) (f : Nat → Int) (hn : n ≤ 1000) (hf : ∀ i, i < n → -1000000000000 ≤ f i ∧ f i ≤ 1000000000000) (ka : Nat) (ca : List D) (kb : Nat) (cb : List D) (x2 : Nat) (x3 : List D) (S : Rd → Option Rd) (hS : ∀ ds, S (.next 0 ds) = unitR0_L13_S0 ka ca kb cb (tab n f).length ((tab n f).map iD) x2 x3 ds) : runR S (.next 0 [iD 0, iD 0]) = some (.out 0 [iD (maxTo f n)]) := by
  have h1 : runR S (.next 0 [iD 0, iD 0]) = _ := runR_scan (S := S) (fun _ => 0) (fun i => [iD (maxTo f i), iD (i : Int)]) (Nat.zero_le n) (fun i _ hi => by
    have := hf i hi
    show S (.next 0 _) = _
    rw [hS]
    unfold unitR0_L13_S0
    rw [pullD_some (maxTo f i, (i : Int)) (by rfl) (by rfl)]
    dsimp only
    rw [tab_len, if_pos (by omega), guardP_pos (by omega), readT f hi, pullD_some (f i) (by rfl) (by rfl), size_eq _ this.1 this.2, pullI, big_eq, natI (by omega)]
    rfl)
  refine h1.trans (runR_exit ?_)
  rw [hS]
  unfold unitR0_L13_S0
  rw [pullD_some (maxTo f n, (n : Int)) (by rfl) (by rfl)]
  dsimp only
  rw [tab_len, if_neg (by omega)]
theorem lit_ne {x y : Int} (h : x ≠ y) {d : D} (e : D.tup [d, iD x] = D.tup [d, iD y]) : False := by
  injection e with e
  injection e with _ e
  injection e with e _
  injection e with e
  injection e with _ e
  exact h e
theorem unit0_is (h : Win a b) : m_49 [wnD a b, iD 0] = some (iD (maxTo (th a a b) (a.length + 1))) := by
  unfold m_49
  have hle := h.le
  refine orElse_left ?_
  rw [m_49k0_eq]
  unfold unit0_M
  rw [show [D.agg [D.list a.length (a.map iD), D.list b.length (b.map iD)]] = [wnD a b] from rfl, thrusts_eq h, pullD_some ((tab (a.length + 1) (th a a b)).length, (tab (a.length + 1) (th a a b)).map iD, (tab (a.length + 1) (th b a b)).length, (tab (a.length + 1) (th b a b)).map iD) (by rfl) (by rfl)]
  dsimp only
  rw [show [D.list (tab (a.length + 1) (th a a b)).length ((tab (a.length + 1) (th a a b)).map iD)] = [lD (tab (a.length + 1) (th a a b))] from rfl, gS_eq _ _ (by omega) (fun i hi => by have := th_bound h h.ra (k := i) (by omega); omega), pullI]
theorem unitR0_is (h : Win a b) : m_26 [wnD a b, iD 0] = some (iD (maxTo (th a a b) (a.length + 1))) := by
  unfold m_26
  have hle := h.le
  refine orElse_left ?_
  rw [m_26k0_eq]
  unfold unitR0_M
  rw [show [D.agg [D.list a.length (a.map iD), D.list b.length (b.map iD)]] = [wnD a b] from rfl, thrustsR_eq h, pullD_some ((tab (a.length + 1) (th a a b)).length, (tab (a.length + 1) (th a a b)).map iD, (tab (a.length + 1) (th b a b)).length, (tab (a.length + 1) (th b a b)).map iD) (by rfl) (by rfl)]
  dsimp only
  rw [bindL_some (uR_go (a.length + 1) (th a a b) (by omega) (fun i hi => by have := th_bound h h.ra (k := i) (by omega); omega) a.length (a.map iD) b.length (b.map iD) 0 [] (unitR0_L13_S a.length (a.map iD) b.length (b.map iD) (tab (a.length + 1) (th a a b)).length ((tab (a.length + 1) (th a a b)).map iD) (tab (a.length + 1) (th b a b)).length ((tab (a.length + 1) (th b a b)).map iD)) (fun _ => rfl)), if_pos rfl, pullD_some (maxTo (th a a b) (a.length + 1)) (by rfl) (by rfl)]
theorem unit1_is (h : Win a b) : m_49 [wnD a b, iD 1] = some (iD (maxTo (th b a b) (a.length + 1))) := by
  unfold m_49
  have hle := h.le
  refine orElse_right ?_ ?_
  · unfold m_49k0
    exact pullD_not fun e => lit_ne (by decide) e
  refine orElse_left ?_
  rw [m_49k1_eq]
  unfold unit1_M
  rw [show [D.agg [D.list a.length (a.map iD), D.list b.length (b.map iD)]] = [wnD a b] from rfl, thrusts_eq h, pullD_some ((tab (a.length + 1) (th a a b)).length, (tab (a.length + 1) (th a a b)).map iD, (tab (a.length + 1) (th b a b)).length, (tab (a.length + 1) (th b a b)).map iD) (by rfl) (by rfl)]
  dsimp only
  rw [show [D.list (tab (a.length + 1) (th b a b)).length ((tab (a.length + 1) (th b a b)).map iD)] = [lD (tab (a.length + 1) (th b a b))] from rfl, gS_eq _ _ (by omega) (fun i hi => by have := th_bound h h.rb (k := i) (by omega); omega), pullI]
theorem unitR1_is (h : Win a b) : m_26 [wnD a b, iD 1] = some (iD (maxTo (th b a b) (a.length + 1))) := by
  unfold m_26
  have hle := h.le
  refine orElse_right ?_ ?_
  · unfold m_26k0
    exact pullD_not fun e => lit_ne (by decide) e
  refine orElse_left ?_
  rw [m_26k1_eq]
  unfold unitR1_M
  rw [show [D.agg [D.list a.length (a.map iD), D.list b.length (b.map iD)]] = [wnD a b] from rfl, thrustsR_eq h, pullD_some ((tab (a.length + 1) (th a a b)).length, (tab (a.length + 1) (th a a b)).map iD, (tab (a.length + 1) (th b a b)).length, (tab (a.length + 1) (th b a b)).map iD) (by rfl) (by rfl)]
  dsimp only
  rw [bindL_some (uR_go (a.length + 1) (th b a b) (by omega) (fun i hi => by have := th_bound h h.rb (k := i) (by omega); omega) a.length (a.map iD) b.length (b.map iD) 0 [] (unitR1_L13_S a.length (a.map iD) b.length (b.map iD) (tab (a.length + 1) (th a a b)).length ((tab (a.length + 1) (th a a b)).map iD) (tab (a.length + 1) (th b a b)).length ((tab (a.length + 1) (th b a b)).map iD)) (fun _ => rfl)), if_pos rfl, pullD_some (maxTo (th b a b) (a.length + 1)) (by rfl) (by rfl)]
theorem unit2_is (h : Win a b) : m_49 [wnD a b, iD 2] = some (iD (maxTo (rx a b) a.length)) := by
  unfold m_49
  have hle := h.le
  refine orElse_right ?_ ?_
  · unfold m_49k0
    exact pullD_not fun e => lit_ne (by decide) e
  refine orElse_right ?_ ?_
  · unfold m_49k1
    exact pullD_not fun e => lit_ne (by decide) e
  refine orElse_left ?_
  rw [m_49k2_eq]
  unfold unit2_M
  rw [show [D.agg [D.list a.length (a.map iD), D.list b.length (b.map iD)]] = [wnD a b] from rfl, radial_eq h, pullD_some ((tab a.length (rx a b)).length, (tab a.length (rx a b)).map iD, (tab a.length (ry a b)).length, (tab a.length (ry a b)).map iD) (by rfl) (by rfl)]
  dsimp only
  rw [show [D.list (tab a.length (rx a b)).length ((tab a.length (rx a b)).map iD)] = [lD (tab a.length (rx a b))] from rfl, gS_eq _ _ (by omega) (fun i _ => by have := rx_bound h i; omega), pullI]
theorem unitR2_is (h : Win a b) : m_26 [wnD a b, iD 2] = some (iD (maxTo (rx a b) a.length)) := by
  unfold m_26
  have hle := h.le
  refine orElse_right ?_ ?_
  · unfold m_26k0
    exact pullD_not fun e => lit_ne (by decide) e
  refine orElse_right ?_ ?_
  · unfold m_26k1
    exact pullD_not fun e => lit_ne (by decide) e
  refine orElse_left ?_
  rw [m_26k2_eq]
  unfold unitR2_M
  rw [show [D.agg [D.list a.length (a.map iD), D.list b.length (b.map iD)]] = [wnD a b] from rfl, radialR_eq h, pullD_some ((tab a.length (rx a b)).length, (tab a.length (rx a b)).map iD, (tab a.length (ry a b)).length, (tab a.length (ry a b)).map iD) (by rfl) (by rfl)]
  dsimp only
  rw [bindL_some (uR_go a.length (rx a b) (by omega) (fun i _ => by have := rx_bound h i; omega) a.length (a.map iD) b.length (b.map iD) 0 [] (unitR2_L13_S a.length (a.map iD) b.length (b.map iD) (tab a.length (rx a b)).length ((tab a.length (rx a b)).map iD) (tab a.length (ry a b)).length ((tab a.length (ry a b)).map iD)) (fun _ => rfl)), if_pos rfl, pullD_some (maxTo (rx a b) a.length) (by rfl) (by rfl)]
theorem unit3_is (h : Win a b) : m_49 [wnD a b, iD 3] = some (iD (maxTo (ry a b) a.length)) := by
  unfold m_49
  have hle := h.le
  refine orElse_right ?_ ?_
  · unfold m_49k0
    exact pullD_not fun e => lit_ne (by decide) e
  refine orElse_right ?_ ?_
  · unfold m_49k1
    exact pullD_not fun e => lit_ne (by decide) e
  refine orElse_right ?_ ?_
  · unfold m_49k2
    exact pullD_not fun e => lit_ne (by decide) e
  rw [m_49k3_eq]
  unfold unit3_M
  rw [show [D.agg [D.list a.length (a.map iD), D.list b.length (b.map iD)]] = [wnD a b] from rfl, radial_eq h, pullD_some ((tab a.length (rx a b)).length, (tab a.length (rx a b)).map iD, (tab a.length (ry a b)).length, (tab a.length (ry a b)).map iD) (by rfl) (by rfl)]
  dsimp only
  rw [show [D.list (tab a.length (ry a b)).length ((tab a.length (ry a b)).map iD)] = [lD (tab a.length (ry a b))] from rfl, gS_eq _ _ (by omega) (fun i _ => by have := ry_bound h i; omega), pullI]
theorem unitR3_is (h : Win a b) : m_26 [wnD a b, iD 3] = some (iD (maxTo (ry a b) a.length)) := by
  unfold m_26
  have hle := h.le
  refine orElse_right ?_ ?_
  · unfold m_26k0
    exact pullD_not fun e => lit_ne (by decide) e
  refine orElse_right ?_ ?_
  · unfold m_26k1
    exact pullD_not fun e => lit_ne (by decide) e
  refine orElse_right ?_ ?_
  · unfold m_26k2
    exact pullD_not fun e => lit_ne (by decide) e
  rw [m_26k3_eq]
  unfold unitR3_M
  rw [show [D.agg [D.list a.length (a.map iD), D.list b.length (b.map iD)]] = [wnD a b] from rfl, radialR_eq h, pullD_some ((tab a.length (rx a b)).length, (tab a.length (rx a b)).map iD, (tab a.length (ry a b)).length, (tab a.length (ry a b)).map iD) (by rfl) (by rfl)]
  dsimp only
  rw [bindL_some (uR_go a.length (ry a b) (by omega) (fun i _ => by have := ry_bound h i; omega) a.length (a.map iD) b.length (b.map iD) 0 [] (unitR3_L13_S a.length (a.map iD) b.length (b.map iD) (tab a.length (rx a b)).length ((tab a.length (rx a b)).map iD) (tab a.length (ry a b)).length ((tab a.length (ry a b)).map iD)) (fun _ => rfl)), if_pos rfl, pullD_some (maxTo (ry a b) a.length) (by rfl) (by rfl)]
theorem unit_is (h : Win a b) {k : Int} (h0 : 0 ≤ k) (h3 : k ≤ 3) : ∃ u, m_49 [wnD a b, iD k] = some (iD u) ∧ m_26 [wnD a b, iD k] = some (iD u) := by
  have : k = 0 ∨ k = 1 ∨ k = 2 ∨ k = 3 := by omega
  rcases this with rfl | rfl | rfl | rfl
  · exact ⟨_, unit0_is h, unitR0_is h⟩
  · exact ⟨_, unit1_is h, unitR1_is h⟩
  · exact ⟨_, unit2_is h, unitR2_is h⟩
  · exact ⟨_, unit3_is h, unitR3_is h⟩
theorem unitOf_all (h : Win a b) (k : Int) : m_15 [wnD a b, iD k] = if 0 ≤ k ∧ k ≤ 3 then (match m_49 [wnD a b, iD k] with | some (.one (.int .i64 u)) => some (.tup [iD u, iD 0]) | _ => none) else some (.tup [iD 0, iD 15]) := by
  rw [m_15_eq]
  unfold unitOf_M
  rw [show [D.agg [D.list a.length (a.map iD), D.list b.length (b.map iD)]] = [wnD a b] from rfl, chkd_eq h, pullD_some (a.length, a.map iD, b.length, b.map iD, 0) (by rfl) (by rfl)]
  dsimp only
  rw [kind_all, pullI, first2, if_neg (by decide), pullI]
  by_cases hk : 0 ≤ k ∧ k ≤ 3
  · obtain ⟨u, hu, -⟩ := unit_is h hk.1 hk.2
    rw [if_pos hk, if_pos hk, if_neg (by decide), show [D.agg [D.list a.length (a.map iD), D.list b.length (b.map iD)], iD k] = [wnD a b, iD k] from rfl, hu, pullI]
  · rw [if_neg hk, if_neg hk, if_pos (by decide)]
/-! The law. -/
theorem fold (a b : List Int) : D.agg [D.list a.length (a.map iD), D.list b.length (b.map iD)] = wnD a b := rfl
theorem fold2 (a b c d : List Int) : [D.agg [D.list a.length (a.map iD), D.list b.length (b.map iD)], D.agg [D.list c.length (c.map iD), D.list d.length (d.map iD)]] = [.agg [lD a, lD b], .agg [lD c, lD d]] := rfl
theorem pullW {β : Type} (a b : List Int) (k : Nat × List D × Nat × List D → Option β) : pullD (some (wnD a b)) (fun d => (D.ln (D.at d 0), D.lc (D.at d 0), D.ln (D.at d 1), D.lc (D.at d 1))) (fun (x, y, z, w) => .agg [.list x y, .list z w]) k = k (a.length, a.map iD, b.length, b.map iD) := pullD_some (a.length, a.map iD, b.length, b.map iD) rfl rfl
theorem law3_bad (a b : List Int) (k : Int) (hla : a.length ≤ 17) (hlb : b.length ≤ 17) (h : winE a b ≠ 0) : m_3 [wnD a b, iD k] = some (.one (.bool true)) := by
  rw [m_3_eq]
  unfold law3_M
  rw [m_8_eq, pullB, if_neg (by decide)]
  unfold law3_M_s0
  rw [fold, few_eq, pullB, if_neg (by simp [hla, hlb]), copyW_eq a b (by omega) (by omega), pullW]
  dsimp only
  rw [fold, residOf_bad (by omega) (by omega) h, pullD_some (0, [], winE a b) (by rfl) (by rfl)]
  dsimp only
  rw [pullW]
  dsimp only
  rw [fold, axialOf_bad (by omega) (by omega) h, pullD_some (0, [], 0, [], winE a b) (by rfl) (by rfl)]
  dsimp only
  rw [pullW]
  dsimp only
  rw [fold, thrustsOf_bad (by omega) (by omega) h, pullD_some (0, [], 0, [], winE a b) (by rfl) (by rfl)]
  dsimp only
  rw [pullW]
  dsimp only
  rw [fold, radialOf_bad (by omega) (by omega) h, pullD_some (0, [], 0, [], winE a b) (by rfl) (by rfl)]
  dsimp only
  rw [pullW]
  dsimp only
  rw [fold, unitOf_bad (by omega) (by omega) h, pullD_some (0, winE a b) (by rfl) (by rfl)]
  dsimp only
  rw [winErr_all, pullI, pullW]
  dsimp only
  rw [fold, chkWindow_all a b (by omega) (by omega), pullI, if_neg (by simp), if_pos h, if_pos rfl, if_pos rfl, if_pos rfl, if_pos rfl, if_pos rfl, if_pos (by rfl), none_eq, pullB, if_pos rfl, pullB, if_pos rfl, pullB, if_pos rfl]
  rfl
theorem law3_good (a b : List Int) (k : Int) (hla : a.length ≤ 17) (hlb : b.length ≤ 17) (h : Win a b) : m_3 [wnD a b, iD k] = some (.one (.bool true)) := by
  have hz : winE a b = 0 := by
    have h2 := chkWindow_all a b (by omega) (by omega)
    rw [chkWindow_eq h] at h2
    injection h2 with h2
    injection h2 with h2
    injection h2 with _ h2
    exact h2.symm
  have hle := h.le
  have hu : ∃ u e, m_15 [wnD a b, iD k] = some (.tup [iD u, iD e]) ∧ ((0 ≤ k ∧ k ≤ 3) ∧ e = 0 ∧ m_26 [wnD a b, iD k] = some (iD u) ∨ ¬ (0 ≤ k ∧ k ≤ 3) ∧ e = 15 ∧ u = 0) := by
    by_cases hk : 0 ≤ k ∧ k ≤ 3
    · obtain ⟨u, h1, h2⟩ := unit_is h hk.1 hk.2
      refine ⟨u, 0, ?_, .inl ⟨hk, rfl, h2⟩⟩
      rw [unitOf_all h, if_pos hk, h1]
    · refine ⟨0, 15, ?_, .inr ⟨hk, rfl, rfl⟩⟩
      rw [unitOf_all h, if_neg hk]
  obtain ⟨u, e, hu1, hu2⟩ := hu
  rw [m_3_eq]
  unfold law3_M
  rw [m_8_eq, pullB, if_neg (by decide)]
  unfold law3_M_s0
  rw [fold, few_eq, pullB, if_neg (by simp [hla, hlb]), copyW_eq a b (by omega) (by omega), pullW]
  dsimp only
  rw [fold, residOf_eq h, pullD_some ((tab (a.length + 1) (rs a b)).length, (tab (a.length + 1) (rs a b)).map iD, 0) (by rfl) (by rfl)]
  dsimp only
  rw [pullW]
  dsimp only
  rw [fold, axialOf_eq h, pullD_some ((tab a.length (ax a a b)).length, (tab a.length (ax a a b)).map iD, (tab a.length (ax b a b)).length, (tab a.length (ax b a b)).map iD, 0) (by rfl) (by rfl)]
  dsimp only
  rw [pullW]
  dsimp only
  rw [fold, thrustsOf_eq h, pullD_some ((tab (a.length + 1) (th a a b)).length, (tab (a.length + 1) (th a a b)).map iD, (tab (a.length + 1) (th b a b)).length, (tab (a.length + 1) (th b a b)).map iD, 0) (by rfl) (by rfl)]
  dsimp only
  rw [pullW]
  dsimp only
  rw [fold, radialOf_eq h, pullD_some ((tab a.length (rx a b)).length, (tab a.length (rx a b)).map iD, (tab a.length (ry a b)).length, (tab a.length (ry a b)).map iD, 0) (by rfl) (by rfl)]
  dsimp only
  rw [pullW]
  dsimp only
  rw [fold, hu1, pullD_some (u, e) (by rfl) (by rfl)]
  dsimp only
  rw [winErr_all, pullI, pullW]
  dsimp only
  rw [fold, chkWindow_all a b (by omega) (by omega), pullI, hz, if_neg (by decide), if_neg (by decide), if_neg (by decide), residR_eq h, pullD_some ((tab (a.length + 1) (rs a b)).length, (tab (a.length + 1) (rs a b)).map iD) (by rfl) (by rfl)]
  dsimp only
  rw [show [D.list (tab (a.length + 1) (rs a b)).length ((tab (a.length + 1) (rs a b)).map iD), D.list (tab (a.length + 1) (rs a b)).length ((tab (a.length + 1) (rs a b)).map iD)] = [lD (tab (a.length + 1) (rs a b)), lD (tab (a.length + 1) (rs a b))] from rfl, ints_same _ (by rw [tab_len]; omega), pullB, if_neg (by decide), if_neg (by decide), axialR_eq h, pullD_some ((tab a.length (ax a a b)).length, (tab a.length (ax a a b)).map iD, (tab a.length (ax b a b)).length, (tab a.length (ax b a b)).map iD) (by rfl) (by rfl)]
  dsimp only
  rw [fold2, same_eq _ _ (by rw [tab_len]; omega) (by rw [tab_len]; omega), pullB, if_neg (by decide), if_neg (by decide), thrustsR_eq h, pullD_some ((tab (a.length + 1) (th a a b)).length, (tab (a.length + 1) (th a a b)).map iD, (tab (a.length + 1) (th b a b)).length, (tab (a.length + 1) (th b a b)).map iD) (by rfl) (by rfl)]
  dsimp only
  rw [fold2, same_eq _ _ (by rw [tab_len]; omega) (by rw [tab_len]; omega), pullB, if_neg (by decide), if_neg (by decide), radialR_eq h, pullD_some ((tab a.length (rx a b)).length, (tab a.length (rx a b)).map iD, (tab a.length (ry a b)).length, (tab a.length (ry a b)).map iD) (by rfl) (by rfl)]
  dsimp only
  rw [fold2, same_eq _ _ (by rw [tab_len]; omega) (by rw [tab_len]; omega), pullB, if_neg (by decide), within_eq, pullB]
  rcases hu2 with ⟨q1, q2, q3⟩ | ⟨q1, q2, q3⟩
  · subst q2
    rw [if_neg (by simpa using q1), if_pos rfl, q3, pullI]
    simp
  · subst q2
    subst q3
    rw [if_pos (by simpa using q1), if_pos rfl]
    rfl
theorem law3_eq (a b : List Int) (k : Int) : m_3 [wnD a b, iD k] = some (.one (.bool true)) := by
  by_cases hf : a.length ≤ 17 ∧ b.length ≤ 17
  · by_cases h : winE a b = 0
    · exact law3_good a b k hf.1 hf.2 (winE_zero h)
    · exact law3_bad a b k hf.1 hf.2 h
  · rw [m_3_eq]
    unfold law3_M
    rw [m_8_eq, pullB, if_neg (by decide)]
    unfold law3_M_s0
    rw [fold, few_eq, pullB, if_pos (by simpa using hf)]
theorem law3_con (a b : List Int) (k : Int) : Con 3 [.agg [lD a, lD b], .one (.int .i64 k)] (.one (.bool true)) := m_3_ok (law3_eq a b k)
end
end Go.Proofs.Ytbfefnfmdkgfjaa
/- ForceWindows: what the runs give, for every argument. -/
namespace Go.Proofs.Ytbfefnfmdkgfjaa.forceWindows
open Go.ChangeShapes Go.WideShapes Go.ChangeAt Go.RowKit Go.Joins Go.Ev
set_option maxRecDepth 100000 in
/-- WHAT THE RUNS GIVE, FOR EVERY ARGUMENT AND EVERY WORLD THAT HOLDS THE TABLES. -/
theorem contract (H : Type) (enc : TypeId × Value → H) (W : World) (base : Nat) (args : Array Value) (ds gs : List (DataW H)) (before : List MemPlace)
    (hval : ∀ (j : Nat) t v, Try.f3.params[j]? = some t → args[j]? = some v → Value.okWide Try.prog W .any base t v)
    (hW : DataW.Whole enc Try.prog Try.f3.params.toList Rows.forceWindowsSpec.vars false W args.toList ds gs before) (hL : laidMetH Try.prog Rows.forceWindowsRow.laid W) :
    Calls Try.prog 3 args W fun e W' => ∃ v, e = .returned v ∧ Rows.forceWindowsSpec.post enc Try.prog Try.f3 false true false false W args v W' := by
  have hW' := hW
  have hlt := hW.lt
  obtain ⟨p, q, hA0, hV, rfl, hfz, hnd⟩ := hW
  have hA : DataW.TrodAll enc Try.prog W 0 (fun _ => true) true Try.f3.params.toList args.toList ds p := hA0
  rw [Try.params3] at hA hval
  obtain ⟨v0, vs0, d0, ds0, p0, q0, hargs, rfl, rfl, h0, r0⟩ := trodAll_cons hA
  obtain ⟨v1, vs1, d1, ds1, p1, q1, rfl, rfl, rfl, h1, r1⟩ := trodAll_cons r0
  obtain ⟨rfl, rfl, rfl⟩ := trodAll_nil r1
  obtain rfl : args = #[v0, v1] := by cases args; simp_all
  obtain ⟨rfl, rfl⟩ := trodVars_none hV
  obtain ⟨e0, o0, k0⟩ := open_agg (ls := [.sl [.int .i64], .sl [.int .i64]]) 8 (by kernel_rfl) (by kernel_rfl) (by kernel_rfl) (hval 0 24 v0 rfl rfl) h0
  obtain ⟨a, b, rfl⟩ := win_of o0
  obtain ⟨e1, o1, k1⟩ := open_cell (c := .int .i64) 8 (by kernel_rfl) (by kernel_rfl) (by kernel_rfl) (hval 1 3 v1 rfl rfl) h1
  obtain ⟨e, rfl, -⟩ := int_of o1
  have hr : RpL (fun _ => True) W [.agg [lD a, lD b], .one (.int .i64 e)] [v0, v1] := by
    simp only [RpL]
    exact ⟨v0, _, rfl, k0, ⟨v1, _, rfl, k1, rfl⟩⟩
  refine (law3_con a b e W (fun _ => True) _ tabs0 hr).mono fun e W' ⟨v, he, hv, hg⟩ => ?_
  simp only [Rp] at hv
  subst he
  subst hv
  have hlaid : laidOutB Try.prog = true := by kernel_rfl
  exact ⟨_, rfl, post_below (pa := (p0 ++ (p1 ++ []))) (pv := []) hW' (fun _ _ _ => trodAll_cons_mk (shut_bool Try.underlying4 _) trodAll_mk0) (fun sp hsp => by
    rw [Try.params3]
    exact trodAll_cons_mk (stays hlaid (by kernel_rfl) (of_decide_eq_true (by kernel_rfl)) h0 hg (fun x hx => hlt x (by simp only [List.mem_append]; left; left; exact hx)) (fun x hx => hsp x (by simp only [List.mem_append]; left; left; exact hx))) (trodAll_cons_mk (stays hlaid (by kernel_rfl) (of_decide_eq_true (by kernel_rfl)) h1 hg (fun x hx => hlt x (by simp only [List.mem_append]; left; right; left; exact hx)) (fun x hx => hsp x (by simp only [List.mem_append]; left; right; left; exact hx))) (trodAll_mk0))) (fun _ _ => rfl) rfl
    hg (ok_one (by kernel_rfl) rfl (okWide_bool_mk Try.underlying4 _))⟩
end Go.Proofs.Ytbfefnfmdkgfjaa.forceWindows
/- ForceWindows: closed facts of the witness. -/
namespace Go.Proofs.Ytbfefnfmdkgfjaa.forceWindows
open Go.ChangeShapes Go.WideShapes Go.ChangeAt Go.RowKit Go.Joins
/-- THE WITNESS's ARGUMENTS. -/
noncomputable def args0 : Array Value := #[.agg #[.slice none 0 0, .slice none 0 0], .int .i64 0]
/-- A WORLD FOR THE WITNESS: the heap that the program's own initialisers leave. -/
noncomputable def start (os : Os) : World := World.doorLaid Try.prog 400 os
theorem laid_met (os : Os) : laidMet Try.prog Rows.forceWindowsRow.laid ((start os).forCall (fun _ _ => 0) ⟨#[], args0, []⟩).memory := ⟨[], rfl, List.nodup_nil, fun _ _ h => by cases h⟩
theorem reads (os : Os) {H : Type} (enc : TypeId × Value → H) : ∃ places, DataW.whole enc Try.prog ((start os).forCall (fun _ _ => 0) ⟨#[], args0, []⟩).memory Try.f3.params.toList Rows.forceWindowsSpec.vars false args0.toList 8 = some ([.agg [.nil, .nil], .lit (.int .i64 0)], [], places) :=
  ⟨[], by kernel_rfl⟩
theorem vB (os : Os) : ((start os).forCall (fun _ _ => 0) ⟨#[], args0, []⟩).variablesB Try.prog = true := by kernel_rfl
theorem rB (os : Os) : (((start os).forCall (fun _ _ => 0) ⟨#[], args0, []⟩).heap.toList.drop Try.prog.globals.size).take ((begin Try.prog (fun _ _ => 0) default).world.heap.size - Try.prog.globals.size) = (begin Try.prog (fun _ _ => 0) default).world.heap.toList.drop Try.prog.globals.size := by kernel_rfl
theorem oB (os : Os) : Input.okWideB Try.prog ((start os).forCall (fun _ _ => 0) ⟨#[], args0, []⟩) 3 ⟨#[], args0, []⟩ = true := by kernel_rfl
theorem hB (os : Os) : (start os).os = os := by kernel_rfl
end Go.Proofs.Ytbfefnfmdkgfjaa.forceWindows
/- For any window, valid or not, and any kind, the law ForceWindows of the program answers true, and its arguments read as they did. CONDITIONS: none. -/
namespace Go.Proofs.Ytbfefnfmdkgfjaa.forceWindows
open Go.ChangeShapes Go.WideShapes Go.ChangeAt Go.RowKit Go.Joins
set_option maxRecDepth 100000 in
theorem lifted (os : Os) (started : os.Started) (H : Type) (enc : TypeId × Value → H) (F : Stop.Interp) :
    ReturnsInHanded {} Try.checked os 3 .any ((OpenSpec.ofChange Rows.forceWindowsSpec).preRow enc Try.prog Try.f3 Rows.forceWindowsRow.domain false Rows.forceWindowsRow.laid) (((OpenSpec.ofChange Rows.forceWindowsSpec).at F).post enc Try.prog Try.f3 false true false false) := by
  obtain ⟨places, hx⟩ := reads os enc
  refine returnsInHanded_of_row (C := Try.checked) (s := OpenSpec.ofChange Rows.forceWindowsSpec) own started (by kernel_rfl) Try.func3
    (witness_row_at (enc := enc) (C := Try.checked) false (start os) args0 (hB os) (vB os) (rB os) (oB os)
      (OpenSpec.preRow_of_cond 8 hx (by kernel_rfl) (fun k hk => by cases hk) (by kernel_rfl) (laid_met os))) ?_
  intro W base args ds gs before hval hW _ _ _ hL _ _
  exact contract H enc W base args ds gs before hval hW hL
theorem said : Rows.ForceWindowsSaid :=
  OpenClaim.holds_of_cond 3 Try.f3 rfl rfl rfl rfl rfl rfl rfl ⟨rfl, rfl, rfl, rfl, rfl⟩ rfl rfl rfl rfl rfl (by kernel_rfl) Try.func3 (by kernel_rfl)
    (of_decide_eq_true (by kernel_rfl)) (by unfold Func.isWrapper; first | (rw [if_pos (by decide +kernel)]; kernel_rfl) | (rw [if_neg (by decide +kernel)]; exact ⟨rfl, rfl⟩))
    (fun os started H enc _ F => by rw [OpenClaim.pre_eq_preRow]; exact lifted os started H enc F)
end Go.Proofs.Ytbfefnfmdkgfjaa.forceWindows
