/- For any window, valid or not, any shift and any tolerance, the law ForceOthers of the program answers true, and its arguments read as they did. CONDITIONS: none. -/
import Derived.Test.YtbfefnfmdkgfjaaTD
import Derived.Test.YtbfefnfmdkgfjaaTE
import Derived.Test.YtbfefnfmdkgfjaaTA
set_option linter.unusedVariables false
set_option linter.unusedSimpArgs false
set_option linter.unusedSectionVars false
set_option linter.unnecessarySimpa false
namespace Go.Proofs.Ytbfefnfmdkgfjaa
open Go.Ev Go.RowKit
set_option maxRecDepth 100000
set_option maxHeartbeats 8000000
set_option linter.all false
noncomputable section
def mirrR_x3_0 : LExit := ⟨some 0, [.cgrow 3 0 1, .cgrow 3 1 1], (4 :: (List.range' 9 24))⟩
def mirrR_x3_1 : LExit := ⟨some 0, [.cnil 3 0, .cgrow 3 1 1], (4 :: (List.range' 9 24))⟩
def mirrR_x3_2 : LExit := ⟨some 0, [.cgrow 3 0 1, .cnil 3 1], (4 :: (List.range' 9 24))⟩
def mirrR_x3_3 : LExit := ⟨some 0, [.cnil 3 0, .cnil 3 1], (4 :: (List.range' 9 24))⟩
def mirrR_sp : List LSpec := [⟨31, 3, [mirrR_x3_0, mirrR_x3_1, mirrR_x3_2, mirrR_x3_3]⟩]
def mirrR_L3_E (ka : Nat) (ca : List D) (kb : Nat) (cb : List D)  : List AV × AHeap := ([.agg [.dsl 0, .dsl 1], .ptr 2 0, .ptr 3 0, .ptr 4 0, .pure (.int .i64 (IntKind.i64.wrap ((ka : Int) - (1 : Int)))), .ptr 2 0, .dsl 0, .pure (.int .i64 (ka : Int)), .pure (.int .i64 (IntKind.i64.wrap ((ka : Int) - (1 : Int)))), .pure (.tuple #[]), .pure (.tuple #[]), .pure (.tuple #[]), .pure (.tuple #[]), .pure (.tuple #[]), .pure (.tuple #[]), .pure (.tuple #[]), .pure (.tuple #[]), .pure (.tuple #[]), .pure (.tuple #[]), .pure (.tuple #[]), .pure (.tuple #[]), .pure (.tuple #[]), .pure (.tuple #[]), .pure (.tuple #[]), .pure (.tuple #[]), .pure (.tuple #[]), .pure (.tuple #[]), .pure (.tuple #[]), .pure (.tuple #[]), .pure (.tuple #[]), .pure (.tuple #[]), .pure (.tuple #[]), .pure (.tuple #[]), .pure (.tuple #[])], [(4, { cells := [.pure (.slice none 0 0), .pure (.slice none 0 0)], opn := none, kind := .cells }), (3, { cells := [.pure (.slice none 0 0), .pure (.slice none 0 0)], opn := none, kind := .cells }), (2, { cells := [.dsl 0, .dsl 1], opn := none, kind := .cells }), (1, { cells := [], opn := none, kind := .deep kb cb }), (0, { cells := [], opn := none, kind := .deep ka ca })])
def mirrR_L3_A : LoopAt := ⟨31, loopAt Try.prog 31 0, 5, 32, 4, noFrame⟩
theorem mirrR_L3_ok : (mirrR_L3_A).OK := ⟨by show 5 ≤ 32; decide, by show 4 ≤ 5; decide, by kernel_rfl, rfl⟩
def mirrR_L3_gs (ka : Nat) (ca : List D) (kb : Nat) (cb : List D)  : Go.Ev.Rd → Option GS
  | .next 0 ds => ghost [.val 4, .cgrow 3 0 1, .cgrow 3 1 1] (List.range' 9 24) (mirrR_L3_E ka ca kb cb).1 (mirrR_L3_E ka ca kb cb).2 5 ds
  | .next 1 ds => ghost [.val 4, .cnil 3 0, .cgrow 3 1 1] (List.range' 9 24) (mirrR_L3_E ka ca kb cb).1 (mirrR_L3_E ka ca kb cb).2 5 ds
  | .next 2 ds => ghost [.val 4, .cgrow 3 0 1, .cnil 3 1] (List.range' 9 24) (mirrR_L3_E ka ca kb cb).1 (mirrR_L3_E ka ca kb cb).2 5 ds
  | .next 3 ds => ghost [.val 4, .cnil 3 0, .cnil 3 1] (List.range' 9 24) (mirrR_L3_E ka ca kb cb).1 (mirrR_L3_E ka ca kb cb).2 5 ds
  | .out 0 ds => ghost mirrR_x3_0.live mirrR_x3_0.junk (mirrR_L3_E ka ca kb cb).1 (mirrR_L3_E ka ca kb cb).2 5 ds
  | .out 1 ds => ghost mirrR_x3_1.live mirrR_x3_1.junk (mirrR_L3_E ka ca kb cb).1 (mirrR_L3_E ka ca kb cb).2 5 ds
  | .out 2 ds => ghost mirrR_x3_2.live mirrR_x3_2.junk (mirrR_L3_E ka ca kb cb).1 (mirrR_L3_E ka ca kb cb).2 5 ds
  | .out 3 ds => ghost mirrR_x3_3.live mirrR_x3_3.junk (mirrR_L3_E ka ca kb cb).1 (mirrR_L3_E ka ca kb cb).2 5 ds
  | _ => none
def mirrR_L3_ex : Nat → Option Nat
  | 0 => mirrR_x3_0.ex
  | 1 => mirrR_x3_1.ex
  | 2 => mirrR_x3_2.ex
  | 3 => mirrR_x3_3.ex
  | _ => none
def mirrR_L3_ax : Go.Ev.Rd → AX
  | .next _ _ => .normal
  | .out j _ => axOf (mirrR_L3_ex j)
def mirrR_L3_S0 (ka : Nat) (ca : List D) (kb : Nat) (cb : List D)  (ds : List D) : Option Go.Ev.Rd := pullD (α := Int × Nat × (List D) × Nat × (List D)) (some (.tup ds)) (fun d => ((D.vi (D.at d 0)), (D.ln (D.at d 1)), (D.lc (D.at d 1)), (D.ln (D.at d 2)), (D.lc (D.at d 2)))) (fun (s4, s3_0n, s3_0c, s3_1n, s3_1c) => .tup [iD s4, .list s3_0n s3_0c, .list s3_1n s3_1c]) fun (s4, s3_0n, s3_0c, s3_1n, s3_1c) => ((if s4 ≥ (0 : Int) then guardP ((0 : Int) ≤ s4 ∧ s4.toNat < ka) (pullD (α := Int) (readD ca (s4.toNat * 1) 1 false) (fun d => ((D.vi d))) (fun v0 => iD v0) fun v0 => (guardP ((∀ (u : D), u ∈ [dCell (.int .i64 v0)] → cellD u) ∧ s3_0n * 1 ≤ s3_0c.length ∧ (s3_0n + (0 + 1)) * 8 ≤ 140737488355328 ∧ s3_0n + (0 + 1) ≤ 4611686018427387904) (guardP ((0 : Int) ≤ s4 ∧ s4.toNat < kb) (pullD (α := Int) (readD cb (s4.toNat * 1) 1 false) (fun d => ((D.vi d))) (fun v1 => iD v1) fun v1 => (guardP ((∀ (u : D), u ∈ [dCell (.int .i64 v1)] → cellD u) ∧ s3_1n * 1 ≤ s3_1c.length ∧ (s3_1n + (0 + 1)) * 8 ≤ 140737488355328 ∧ s3_1n + (0 + 1) ≤ 4611686018427387904) (some (.next 0 [iD (IntKind.i64.wrap (s4 - (1 : Int))), .list (s3_0n + (0 + 1)) (List.append (List.take (s3_0n * 1) s3_0c) [dCell (.int .i64 v0)]), .list (s3_1n + (0 + 1)) (List.append (List.take (s3_1n * 1) s3_1c) [dCell (.int .i64 v1)])]))))))) else some (.out 0 [.list s3_0n s3_0c, .list s3_1n s3_1c])))
def mirrR_L3_S1 (ka : Nat) (ca : List D) (kb : Nat) (cb : List D)  (ds : List D) : Option Go.Ev.Rd := pullD (α := Int × Nat × (List D)) (some (.tup ds)) (fun d => ((D.vi (D.at d 0)), (D.ln (D.at d 2)), (D.lc (D.at d 2)))) (fun (s4, s3_1n, s3_1c) => .tup [iD s4, .one (.tuple #[]), .list s3_1n s3_1c]) fun (s4, s3_1n, s3_1c) => ((if s4 ≥ (0 : Int) then guardP ((0 : Int) ≤ s4 ∧ s4.toNat < ka) (pullD (α := Int) (readD ca (s4.toNat * 1) 1 false) (fun d => ((D.vi d))) (fun v0 => iD v0) fun v0 => (guardP ((0 : Int) ≤ s4 ∧ s4.toNat < kb) (pullD (α := Int) (readD cb (s4.toNat * 1) 1 false) (fun d => ((D.vi d))) (fun v1 => iD v1) fun v1 => (guardP ((∀ (u : D), u ∈ [dCell (.int .i64 v1)] → cellD u) ∧ s3_1n * 1 ≤ s3_1c.length ∧ (s3_1n + (0 + 1)) * 8 ≤ 140737488355328 ∧ s3_1n + (0 + 1) ≤ 4611686018427387904) (some (.next 0 [iD (IntKind.i64.wrap (s4 - (1 : Int))), .list 1 [iD v0], .list (s3_1n + (0 + 1)) (List.append (List.take (s3_1n * 1) s3_1c) [dCell (.int .i64 v1)])])))))) else some (.out 1 [.one (.tuple #[]), .list s3_1n s3_1c])))
def mirrR_L3_S2 (ka : Nat) (ca : List D) (kb : Nat) (cb : List D)  (ds : List D) : Option Go.Ev.Rd := pullD (α := Int × Nat × (List D)) (some (.tup ds)) (fun d => ((D.vi (D.at d 0)), (D.ln (D.at d 1)), (D.lc (D.at d 1)))) (fun (s4, s3_0n, s3_0c) => .tup [iD s4, .list s3_0n s3_0c, .one (.tuple #[])]) fun (s4, s3_0n, s3_0c) => ((if s4 ≥ (0 : Int) then guardP ((0 : Int) ≤ s4 ∧ s4.toNat < ka) (pullD (α := Int) (readD ca (s4.toNat * 1) 1 false) (fun d => ((D.vi d))) (fun v0 => iD v0) fun v0 => (guardP ((∀ (u : D), u ∈ [dCell (.int .i64 v0)] → cellD u) ∧ s3_0n * 1 ≤ s3_0c.length ∧ (s3_0n + (0 + 1)) * 8 ≤ 140737488355328 ∧ s3_0n + (0 + 1) ≤ 4611686018427387904) (guardP ((0 : Int) ≤ s4 ∧ s4.toNat < kb) (pullD (α := Int) (readD cb (s4.toNat * 1) 1 false) (fun d => ((D.vi d))) (fun v1 => iD v1) fun v1 => (some (.next 0 [iD (IntKind.i64.wrap (s4 - (1 : Int))), .list (s3_0n + (0 + 1)) (List.append (List.take (s3_0n * 1) s3_0c) [dCell (.int .i64 v0)]), .list 1 [iD v1]])))))) else some (.out 2 [.list s3_0n s3_0c, .one (.tuple #[])])))
def mirrR_L3_S3 (ka : Nat) (ca : List D) (kb : Nat) (cb : List D)  (ds : List D) : Option Go.Ev.Rd := pullD (α := Int) (some (.tup ds)) (fun d => ((D.vi (D.at d 0)))) (fun s4 => .tup [iD s4, .one (.tuple #[]), .one (.tuple #[])]) fun s4 => ((if s4 ≥ (0 : Int) then guardP ((0 : Int) ≤ s4 ∧ s4.toNat < ka) (pullD (α := Int) (readD ca (s4.toNat * 1) 1 false) (fun d => ((D.vi d))) (fun v0 => iD v0) fun v0 => (guardP ((0 : Int) ≤ s4 ∧ s4.toNat < kb) (pullD (α := Int) (readD cb (s4.toNat * 1) 1 false) (fun d => ((D.vi d))) (fun v1 => iD v1) fun v1 => (some (.next 0 [iD (IntKind.i64.wrap (s4 - (1 : Int))), .list 1 [iD v0], .list 1 [iD v1]]))))) else some (.out 3 [.one (.tuple #[]), .one (.tuple #[])])))
def mirrR_L3_S (ka : Nat) (ca : List D) (kb : Nat) (cb : List D)  : Go.Ev.Rd → Option Go.Ev.Rd
  | .next 0 ds => mirrR_L3_S0 ka ca kb cb ds
  | .next 1 ds => mirrR_L3_S1 ka ca kb cb ds
  | .next 2 ds => mirrR_L3_S2 ka ca kb cb ds
  | .next 3 ds => mirrR_L3_S3 ka ca kb cb ds
  | _ => none
theorem mirrR_L3_S_0 (ka : Nat) (ca : List D) (kb : Nat) (cb : List D)  (ds : List D) : mirrR_L3_S ka ca kb cb (.next 0 ds) = mirrR_L3_S0 ka ca kb cb ds := rfl
theorem mirrR_L3_S_1 (ka : Nat) (ca : List D) (kb : Nat) (cb : List D)  (ds : List D) : mirrR_L3_S ka ca kb cb (.next 1 ds) = mirrR_L3_S1 ka ca kb cb ds := rfl
theorem mirrR_L3_S_2 (ka : Nat) (ca : List D) (kb : Nat) (cb : List D)  (ds : List D) : mirrR_L3_S ka ca kb cb (.next 2 ds) = mirrR_L3_S2 ka ca kb cb ds := rfl
theorem mirrR_L3_S_3 (ka : Nat) (ca : List D) (kb : Nat) (cb : List D)  (ds : List D) : mirrR_L3_S ka ca kb cb (.next 3 ds) = mirrR_L3_S3 ka ca kb cb ds := rfl
theorem mirrR_L3_S_ok (ka : Nat) (ca : List D) (kb : Nat) (cb : List D)  : ∀ s_ t_, mirrR_L3_S ka ca kb cb s_ = some t_ → Step (ctx [31] mirrR_sp) Tabs mirrR_L3_A (stateOf (mirrR_L3_gs ka ca kb cb s_)) (stateOf (mirrR_L3_gs ka ca kb cb t_)) (mirrR_L3_ax t_) ∧ EndOK mirrR_L3_A.nx mirrR_L3_A.low (mirrR_L3_gs ka ca kb cb) t_
  | .next 0 ds, t_, h => by
    have h_ : mirrR_L3_S0 ka ca kb cb ds = some t_ := h
    clear h
    unfold mirrR_L3_S0 at h_
    obtain ⟨⟨s4, s3_0n, s3_0c, s3_1n, s3_1c⟩, e0, h0⟩ := pullD_elim h_
    clear h_
    obtain rfl := tup_inj e0
    by_cases b1_ : s4 ≥ (0 : Int)
    · have h2_ := (if_pos b1_).symm.trans h0
      obtain ⟨f3_, h4_⟩ := guardP_elim h2_
      obtain ⟨v0, f5_, h6_⟩ := pullD_elim h4_
      replace f5_ := readD_elim f5_
      obtain ⟨f7_, h8_⟩ := guardP_elim h6_
      obtain ⟨f9_, h10_⟩ := guardP_elim h8_
      obtain ⟨v1, f11_, h12_⟩ := pullD_elim h10_
      replace f11_ := readD_elim f11_
      obtain ⟨f13_, h14_⟩ := guardP_elim h12_
      obtain rfl := Option.some.inj h14_
      exact ⟨step_pc 3000 (bT 1 []) [iD v0, iD v1] [c_d b1_, c_f f3_, c_f f5_, c_f f7_, c_f f9_, c_f f11_, c_f f13_] [] _ rfl (by kernel_rfl) (by kernel_rfl) (by kernel_rfl) (by kernel_rfl) (by kernel_rfl) (by kernel_rfl), trivial⟩
    have h2_ := (if_neg b1_).symm.trans h0
    obtain rfl := Option.some.inj h2_
    exact ⟨step_pc 3000 (bF 1 []) [] [c_n b1_] [] _ rfl (by kernel_rfl) (by kernel_rfl) (by kernel_rfl) (by kernel_rfl) (by kernel_rfl) (by kernel_rfl), by kernel_rfl, by kernel_rfl⟩
  | .next 1 ds, t_, h => by
    have h_ : mirrR_L3_S1 ka ca kb cb ds = some t_ := h
    clear h
    unfold mirrR_L3_S1 at h_
    obtain ⟨⟨s4, s3_1n, s3_1c⟩, e0, h0⟩ := pullD_elim h_
    clear h_
    obtain rfl := tup_inj e0
    by_cases b1_ : s4 ≥ (0 : Int)
    · have h2_ := (if_pos b1_).symm.trans h0
      obtain ⟨f3_, h4_⟩ := guardP_elim h2_
      obtain ⟨v0, f5_, h6_⟩ := pullD_elim h4_
      replace f5_ := readD_elim f5_
      obtain ⟨f7_, h8_⟩ := guardP_elim h6_
      obtain ⟨v1, f9_, h10_⟩ := pullD_elim h8_
      replace f9_ := readD_elim f9_
      obtain ⟨f11_, h12_⟩ := guardP_elim h10_
      obtain rfl := Option.some.inj h12_
      exact ⟨step_pc 3000 (bT 1 []) [iD v0, iD v1] [c_d b1_, c_f f3_, c_f f5_, ⟨fact (0 < 0 + 1 ∧ (0 + 1) * 8 ≤ 140737488355328 ∧ 0 + 1 ≤ 4611686018427387904), true, fact_mk (by decide)⟩, c_f f7_, c_f f9_, c_f f11_] [] _ rfl (by kernel_rfl) (by kernel_rfl) (by kernel_rfl) (by kernel_rfl) (by kernel_rfl) (by kernel_rfl), trivial⟩
    have h2_ := (if_neg b1_).symm.trans h0
    obtain rfl := Option.some.inj h2_
    exact ⟨step_pc 3000 (bF 1 []) [] [c_n b1_] [] _ rfl (by kernel_rfl) (by kernel_rfl) (by kernel_rfl) (by kernel_rfl) (by kernel_rfl) (by kernel_rfl), by kernel_rfl, by kernel_rfl⟩
  | .next 2 ds, t_, h => by
    have h_ : mirrR_L3_S2 ka ca kb cb ds = some t_ := h
    clear h
    unfold mirrR_L3_S2 at h_
    obtain ⟨⟨s4, s3_0n, s3_0c⟩, e0, h0⟩ := pullD_elim h_
    clear h_
    obtain rfl := tup_inj e0
    by_cases b1_ : s4 ≥ (0 : Int)
    · have h2_ := (if_pos b1_).symm.trans h0
      obtain ⟨f3_, h4_⟩ := guardP_elim h2_
      obtain ⟨v0, f5_, h6_⟩ := pullD_elim h4_
      replace f5_ := readD_elim f5_
      obtain ⟨f7_, h8_⟩ := guardP_elim h6_
      obtain ⟨f9_, h10_⟩ := guardP_elim h8_
      obtain ⟨v1, f11_, h12_⟩ := pullD_elim h10_
      replace f11_ := readD_elim f11_
      obtain rfl := Option.some.inj h12_
      exact ⟨step_pc 3000 (bT 1 []) [iD v0, iD v1] [c_d b1_, c_f f3_, c_f f5_, c_f f7_, c_f f9_, c_f f11_, ⟨fact (0 < 0 + 1 ∧ (0 + 1) * 8 ≤ 140737488355328 ∧ 0 + 1 ≤ 4611686018427387904), true, fact_mk (by decide)⟩] [] _ rfl (by kernel_rfl) (by kernel_rfl) (by kernel_rfl) (by kernel_rfl) (by kernel_rfl) (by kernel_rfl), trivial⟩
    have h2_ := (if_neg b1_).symm.trans h0
    obtain rfl := Option.some.inj h2_
    exact ⟨step_pc 3000 (bF 1 []) [] [c_n b1_] [] _ rfl (by kernel_rfl) (by kernel_rfl) (by kernel_rfl) (by kernel_rfl) (by kernel_rfl) (by kernel_rfl), by kernel_rfl, by kernel_rfl⟩
  | .next 3 ds, t_, h => by
    have h_ : mirrR_L3_S3 ka ca kb cb ds = some t_ := h
    clear h
    unfold mirrR_L3_S3 at h_
    obtain ⟨s4, e0, h0⟩ := pullD_elim h_
    clear h_
    obtain rfl := tup_inj e0
    by_cases b1_ : s4 ≥ (0 : Int)
    · have h2_ := (if_pos b1_).symm.trans h0
      obtain ⟨f3_, h4_⟩ := guardP_elim h2_
      obtain ⟨v0, f5_, h6_⟩ := pullD_elim h4_
      replace f5_ := readD_elim f5_
      obtain ⟨f7_, h8_⟩ := guardP_elim h6_
      obtain ⟨v1, f9_, h10_⟩ := pullD_elim h8_
      replace f9_ := readD_elim f9_
      obtain rfl := Option.some.inj h10_
      exact ⟨step_pc 3000 (bT 1 []) [iD v0, iD v1] [c_d b1_, c_f f3_, c_f f5_, ⟨fact (0 < 0 + 1 ∧ (0 + 1) * 8 ≤ 140737488355328 ∧ 0 + 1 ≤ 4611686018427387904), true, fact_mk (by decide)⟩, c_f f7_, c_f f9_, ⟨fact (0 < 0 + 1 ∧ (0 + 1) * 8 ≤ 140737488355328 ∧ 0 + 1 ≤ 4611686018427387904), true, fact_mk (by decide)⟩] [] _ rfl (by kernel_rfl) (by kernel_rfl) (by kernel_rfl) (by kernel_rfl) (by kernel_rfl) (by kernel_rfl), trivial⟩
    have h2_ := (if_neg b1_).symm.trans h0
    obtain rfl := Option.some.inj h2_
    exact ⟨step_pc 3000 (bF 1 []) [] [c_n b1_] [] _ rfl (by kernel_rfl) (by kernel_rfl) (by kernel_rfl) (by kernel_rfl) (by kernel_rfl) (by kernel_rfl), by kernel_rfl, by kernel_rfl⟩
  | .next (_ + 4) _, _, h => by cases h
  | .out _ _, _, h => by cases h
theorem mirrR_L3_go (ka : Nat) (ca : List D) (kb : Nat) (cb : List D)  {q : Nat} {ds : List D} {j : Nat} {es : List D} (h : runR (mirrR_L3_S ka ca kb cb) (.next q ds) = some (.out j es)) : Runs (ctx [31] mirrR_sp) Tabs mirrR_L3_A (stateOf (mirrR_L3_gs ka ca kb cb (.next q ds))) (stateOf (mirrR_L3_gs ka ca kb cb (.out j es))) (mirrR_L3_ax (.out j es)) ∧ (nxtOf (mirrR_L3_gs ka ca kb cb (.out j es)), lowGS (mirrR_L3_gs ka ca kb cb (.out j es))) = (mirrR_L3_A.nx, mirrR_L3_A.low) :=
  runs_of' (good true _ _) mirrR_L3_ok (ax := mirrR_L3_ax) (fun _ _ => rfl) (fun _ _ => axOf_end _) (mirrR_L3_S_ok ka ca kb cb) h
theorem mirrR_L3_in0 (ka : Nat) (ca : List D) (kb : Nat) (cb : List D)  {es : List D} (h : runR (mirrR_L3_S ka ca kb cb) (.next 3 [iD ((IntKind.i64.wrap ((ka : Int) - (1 : Int)))), .one (.tuple #[]), .one (.tuple #[])]) = some (.out 0 es)) : LoopC (loopAt Try.prog 31 0) (mirrR_L3_E ka ca kb cb) 5 noFrame mirrR_x3_0 es :=
  have r := mirrR_L3_go ka ca kb cb h
  loopin_as rfl (loop_in (l := mirrR_L3_A) (E := (mirrR_L3_E ka ca kb cb)) (S := stateOf (mirrR_L3_gs ka ca kb cb (.next 3 [iD ((IntKind.i64.wrap ((ka : Int) - (1 : Int)))), .one (.tuple #[]), .one (.tuple #[])]))) (ns := nsOf (mirrR_L3_gs ka ca kb cb (.next 3 [iD ((IntKind.i64.wrap ((ka : Int) - (1 : Int)))), .one (.tuple #[]), .one (.tuple #[])]))) mirrR_L3_ok r.1 r.2 (by kernel_rfl) (by kernel_rfl) (by kernel_rfl) (by kernel_rfl))
theorem mirrR_L3_in1 (ka : Nat) (ca : List D) (kb : Nat) (cb : List D)  {es : List D} (h : runR (mirrR_L3_S ka ca kb cb) (.next 3 [iD ((IntKind.i64.wrap ((ka : Int) - (1 : Int)))), .one (.tuple #[]), .one (.tuple #[])]) = some (.out 1 es)) : LoopC (loopAt Try.prog 31 0) (mirrR_L3_E ka ca kb cb) 5 noFrame mirrR_x3_1 es :=
  have r := mirrR_L3_go ka ca kb cb h
  loopin_as rfl (loop_in (l := mirrR_L3_A) (E := (mirrR_L3_E ka ca kb cb)) (S := stateOf (mirrR_L3_gs ka ca kb cb (.next 3 [iD ((IntKind.i64.wrap ((ka : Int) - (1 : Int)))), .one (.tuple #[]), .one (.tuple #[])]))) (ns := nsOf (mirrR_L3_gs ka ca kb cb (.next 3 [iD ((IntKind.i64.wrap ((ka : Int) - (1 : Int)))), .one (.tuple #[]), .one (.tuple #[])]))) mirrR_L3_ok r.1 r.2 (by kernel_rfl) (by kernel_rfl) (by kernel_rfl) (by kernel_rfl))
theorem mirrR_L3_in2 (ka : Nat) (ca : List D) (kb : Nat) (cb : List D)  {es : List D} (h : runR (mirrR_L3_S ka ca kb cb) (.next 3 [iD ((IntKind.i64.wrap ((ka : Int) - (1 : Int)))), .one (.tuple #[]), .one (.tuple #[])]) = some (.out 2 es)) : LoopC (loopAt Try.prog 31 0) (mirrR_L3_E ka ca kb cb) 5 noFrame mirrR_x3_2 es :=
  have r := mirrR_L3_go ka ca kb cb h
  loopin_as rfl (loop_in (l := mirrR_L3_A) (E := (mirrR_L3_E ka ca kb cb)) (S := stateOf (mirrR_L3_gs ka ca kb cb (.next 3 [iD ((IntKind.i64.wrap ((ka : Int) - (1 : Int)))), .one (.tuple #[]), .one (.tuple #[])]))) (ns := nsOf (mirrR_L3_gs ka ca kb cb (.next 3 [iD ((IntKind.i64.wrap ((ka : Int) - (1 : Int)))), .one (.tuple #[]), .one (.tuple #[])]))) mirrR_L3_ok r.1 r.2 (by kernel_rfl) (by kernel_rfl) (by kernel_rfl) (by kernel_rfl))
theorem mirrR_L3_in3 (ka : Nat) (ca : List D) (kb : Nat) (cb : List D)  {es : List D} (h : runR (mirrR_L3_S ka ca kb cb) (.next 3 [iD ((IntKind.i64.wrap ((ka : Int) - (1 : Int)))), .one (.tuple #[]), .one (.tuple #[])]) = some (.out 3 es)) : LoopC (loopAt Try.prog 31 0) (mirrR_L3_E ka ca kb cb) 5 noFrame mirrR_x3_3 es :=
  have r := mirrR_L3_go ka ca kb cb h
  loopin_as rfl (loop_in (l := mirrR_L3_A) (E := (mirrR_L3_E ka ca kb cb)) (S := stateOf (mirrR_L3_gs ka ca kb cb (.next 3 [iD ((IntKind.i64.wrap ((ka : Int) - (1 : Int)))), .one (.tuple #[]), .one (.tuple #[])]))) (ns := nsOf (mirrR_L3_gs ka ca kb cb (.next 3 [iD ((IntKind.i64.wrap ((ka : Int) - (1 : Int)))), .one (.tuple #[]), .one (.tuple #[])]))) mirrR_L3_ok r.1 r.2 (by kernel_rfl) (by kernel_rfl) (by kernel_rfl) (by kernel_rfl))
def mirrR_M (ka : Nat) (ca : List D) (kb : Nat) (cb : List D) : Option D := bindL (runR (mirrR_L3_S ka ca kb cb) (.next 3 [iD ((IntKind.i64.wrap ((ka : Int) - (1 : Int)))), .one (.tuple #[]), .one (.tuple #[])])) fun j ds => (if j = 0 then pullD (α := Nat × (List D) × Nat × (List D)) (some (.tup ds)) (fun d => ((D.ln (D.at d 0)), (D.lc (D.at d 0)), (D.ln (D.at d 1)), (D.lc (D.at d 1)))) (fun (k0, c1, k2, c3) => .tup [.list k0 c1, .list k2 c3]) fun (k0, c1, k2, c3) => (guardP ((0 + k0) * 1 ≤ c1.length ∧ 0 < 1) (guardP ((0 + k2) * 1 ≤ c3.length ∧ 0 < 1) (some (.agg [.list k0 c1, .list k2 c3])))) else if j = 1 then pullD (α := Nat × (List D)) (some (.tup ds)) (fun d => ((D.ln (D.at d 1)), (D.lc (D.at d 1)))) (fun (k4, c5) => .tup [.one (.tuple #[]), .list k4 c5]) fun (k4, c5) => (guardP ((0 + k4) * 1 ≤ c5.length ∧ 0 < 1) (some (.agg [.list 0 [], .list k4 c5]))) else if j = 2 then pullD (α := Nat × (List D)) (some (.tup ds)) (fun d => ((D.ln (D.at d 0)), (D.lc (D.at d 0)))) (fun (k6, c7) => .tup [.list k6 c7, .one (.tuple #[])]) fun (k6, c7) => (guardP ((0 + k6) * 1 ≤ c7.length ∧ 0 < 1) (some (.agg [.list k6 c7, .list 0 []]))) else if j = 3 then pullD (some (.tup ds)) (fun _ => ()) (fun _ => .tup [.one (.tuple #[]), .one (.tuple #[])]) fun _ => (some (.agg [.list 0 [], .list 0 []])) else none)
theorem mirrR_M_ok (ka : Nat) (ca : List D) (kb : Nat) (cb : List D) {r : D} (h : mirrR_M ka ca kb cb = some r) : Con 31 [.agg [.list ka ca, .list kb cb]] r := by
  unfold mirrR_M at h
  obtain ⟨j, ds, e1_, h2_⟩ := bindL_elim h
  by_cases j3_ : j = 0
  · have h6_ := (if_pos j3_).symm.trans h2_
    clear h2_
    subst j3_
    obtain ⟨⟨k0, c1, k2, c3⟩, e4_, h7_⟩ := pullD_elim h6_
    clear h6_
    obtain rfl := tup_inj e4_
    have k5_ := mirrR_L3_in0 ka ca kb cb e1_
    obtain ⟨f8_, h9_⟩ := guardP_elim h7_
    obtain ⟨f10_, h11_⟩ := guardP_elim h9_
    obtain rfl := Option.some.inj h11_
    exact con_pc (op := true) (I := [31]) (sp := mirrR_sp) 3000 [] [.tup [iD (Int.ofNat 0), .list k0 c1, .list k2 c3]] [c_f f8_, c_f f10_] [k_l k5_ [] [.tup [iD (Int.ofNat 0), .list k0 c1, .list k2 c3]] []] (by kernel_rfl)
  have h12_ := (if_neg j3_).symm.trans h2_
  clear h2_
  by_cases j13_ : j = 1
  · have h16_ := (if_pos j13_).symm.trans h12_
    clear h12_
    subst j13_
    obtain ⟨⟨k4, c5⟩, e14_, h17_⟩ := pullD_elim h16_
    clear h16_
    obtain rfl := tup_inj e14_
    have k15_ := mirrR_L3_in1 ka ca kb cb e1_
    obtain ⟨f18_, h19_⟩ := guardP_elim h17_
    obtain rfl := Option.some.inj h19_
    exact con_pc (op := true) (I := [31]) (sp := mirrR_sp) 3000 [] [.tup [iD (Int.ofNat 1), .one (.tuple #[]), .list k4 c5]] [c_f f18_] [k_l k15_ [] [.tup [iD (Int.ofNat 1), .one (.tuple #[]), .list k4 c5]] []] (by kernel_rfl)
  have h20_ := (if_neg j13_).symm.trans h12_
  clear h12_
  by_cases j21_ : j = 2
  · have h24_ := (if_pos j21_).symm.trans h20_
    clear h20_
    subst j21_
    obtain ⟨⟨k6, c7⟩, e22_, h25_⟩ := pullD_elim h24_
    clear h24_
    obtain rfl := tup_inj e22_
    have k23_ := mirrR_L3_in2 ka ca kb cb e1_
    obtain ⟨f26_, h27_⟩ := guardP_elim h25_
    obtain rfl := Option.some.inj h27_
    exact con_pc (op := true) (I := [31]) (sp := mirrR_sp) 3000 [] [.tup [iD (Int.ofNat 2), .list k6 c7, .one (.tuple #[])]] [c_f f26_] [k_l k23_ [] [.tup [iD (Int.ofNat 2), .list k6 c7, .one (.tuple #[])]] []] (by kernel_rfl)
  have h28_ := (if_neg j21_).symm.trans h20_
  clear h20_
  by_cases j29_ : j = 3
  · have h32_ := (if_pos j29_).symm.trans h28_
    clear h28_
    subst j29_
    obtain ⟨⟨⟩, e30_, h33_⟩ := pullD_elim h32_
    clear h32_
    obtain rfl := tup_inj e30_
    have k31_ := mirrR_L3_in3 ka ca kb cb e1_
    obtain rfl := Option.some.inj h33_
    exact con_pc (op := true) (I := [31]) (sp := mirrR_sp) 3000 [] [.tup [iD (Int.ofNat 3), .one (.tuple #[]), .one (.tuple #[])]] [] [k_l k31_ [] [.tup [iD (Int.ofNat 3), .one (.tuple #[]), .one (.tuple #[])]] []] (by kernel_rfl)
  have h34_ := (if_neg j29_).symm.trans h28_
  clear h28_
  cases h34_
def m_31 (ds : List D) : Option D := pullD (α := Nat × (List D) × Nat × (List D)) (some (.tup ds)) (fun d => ((D.ln (D.at (D.at d 0) 0)), (D.lc (D.at (D.at d 0) 0)), (D.ln (D.at (D.at d 0) 1)), (D.lc (D.at (D.at d 0) 1)))) (fun (ka, ca, kb, cb) => .tup [.agg [.list ka ca, .list kb cb]]) fun (ka, ca, kb, cb) => mirrR_M ka ca kb cb
theorem m_31_ok {ds : List D} {r : D} (h : m_31 ds = some r) : Con 31 ds r := by
  unfold m_31 at h
  obtain ⟨⟨ka, ca, kb, cb⟩, e0, h0⟩ := pullD_elim h
  obtain rfl := tup_inj e0
  exact mirrR_M_ok ka ca kb cb h0
theorem m_31_eq (ka : Nat) (ca : List D) (kb : Nat) (cb : List D) : m_31 [.agg [.list ka ca, .list kb cb]] = mirrR_M ka ca kb cb := pullD_some (ka, ca, kb, cb) rfl rfl
def shiftR_sp : List LSpec := []
def shiftR_M (ka : Nat) (ca : List D) (kb : Nat) (cb : List D) (n : Int) : Option D := guardP ((∀ (u : D), u ∈ ca → cellD u) ∧ 0 ≤ 0 ∧ (0 + ka) * 8 ≤ 140737488355328 ∧ 0 + ka ≤ 4611686018427387904) (guardP (ca.length = ka * 1) (guardP ((∀ (u : D), u ∈ cb → cellD u) ∧ 0 ≤ 0 ∧ (0 + kb) * 8 ≤ 140737488355328 ∧ 0 + kb ≤ 4611686018427387904) (guardP (cb.length = kb * 1) ((if n ≥ (0 : Int) then guardP ((∀ (u : D), u ∈ manyZeros (Value.int .i64 (0 : Int)).cells.toList n.toNat → cellD u) ∧ (0 + ka) * 1 ≤ (List.take (0 * 1) [] ++ ca).length ∧ (0 + ka + n.toNat) * 8 ≤ 140737488355328 ∧ 0 + ka + n.toNat ≤ 4611686018427387904) (guardP ((0 : Int) ≤ n) (guardP ((0 : Int) ≤ n ∧ n ≤ n ∧ 8 * n.toNat ≤ 140737488355328 ∧ n.toNat ≤ 140737488355328) (guardP ((∀ (u : D), u ∈ List.take ((0 + kb) * 1) (List.drop 0 (List.take (0 * 1) [] ++ cb)) → cellD u) ∧ n.toNat ≤ n.toNat ∧ (manyZeros (Value.int .i64 (0 : Int)).cells.toList n.toNat).length = n.toNat * 1 ∧ (n.toNat + (0 + kb)) * 8 ≤ 140737488355328 ∧ n.toNat + (0 + kb) ≤ 4611686018427387904) (guardP (0 + (0 + kb) * 1 ≤ (List.take (0 * 1) [] ++ cb).length) (guardP ((0 + (0 + ka + n.toNat)) * 1 ≤ (List.take ((0 + ka) * 1) (List.take (0 * 1) [] ++ ca) ++ manyZeros (Value.int .i64 (0 : Int)).cells.toList n.toNat).length ∧ 0 < 1) (guardP ((0 + (n.toNat + (0 + kb))) * 1 ≤ (List.take (n.toNat * 1) (manyZeros (Value.int .i64 (0 : Int)).cells.toList n.toNat) ++ List.take ((0 + kb) * 1) (List.drop 0 (List.take (0 * 1) [] ++ cb))).length ∧ 0 < 1) (some (.agg [.list (0 + ka + n.toNat) (List.append (List.take ((0 + ka) * 1) (List.take (0 * 1) [] ++ ca)) (manyZeros (Value.int .i64 (0 : Int)).cells.toList n.toNat)), .list (n.toNat + (0 + kb)) (List.append (List.take (n.toNat * 1) (manyZeros (Value.int .i64 (0 : Int)).cells.toList n.toNat)) (List.take ((0 + kb) * 1) (List.drop 0 (List.take (0 * 1) [] ++ cb))))])))))))) else guardP ((0 : Int) ≤ IntKind.i64.wrap ((0 : Int) - n) ∧ IntKind.i64.wrap ((0 : Int) - n) ≤ IntKind.i64.wrap ((0 : Int) - n) ∧ 8 * (IntKind.i64.wrap ((0 : Int) - n)).toNat ≤ 140737488355328 ∧ (IntKind.i64.wrap ((0 : Int) - n)).toNat ≤ 140737488355328) (guardP ((∀ (u : D), u ∈ List.take ((0 + ka) * 1) (List.drop 0 (List.take (0 * 1) [] ++ ca)) → cellD u) ∧ (IntKind.i64.wrap ((0 : Int) - n)).toNat ≤ (IntKind.i64.wrap ((0 : Int) - n)).toNat ∧ (manyZeros (Value.int .i64 (0 : Int)).cells.toList (IntKind.i64.wrap ((0 : Int) - n)).toNat).length = (IntKind.i64.wrap ((0 : Int) - n)).toNat * 1 ∧ ((IntKind.i64.wrap ((0 : Int) - n)).toNat + (0 + ka)) * 8 ≤ 140737488355328 ∧ (IntKind.i64.wrap ((0 : Int) - n)).toNat + (0 + ka) ≤ 4611686018427387904) (guardP (0 + (0 + ka) * 1 ≤ (List.take (0 * 1) [] ++ ca).length) (guardP ((∀ (u : D), u ∈ manyZeros (Value.int .i64 (0 : Int)).cells.toList (IntKind.i64.wrap ((0 : Int) - n)).toNat → cellD u) ∧ (0 + kb) * 1 ≤ (List.take (0 * 1) [] ++ cb).length ∧ (0 + kb + (IntKind.i64.wrap ((0 : Int) - n)).toNat) * 8 ≤ 140737488355328 ∧ 0 + kb + (IntKind.i64.wrap ((0 : Int) - n)).toNat ≤ 4611686018427387904) (guardP ((0 : Int) ≤ IntKind.i64.wrap ((0 : Int) - n)) (guardP ((0 + ((IntKind.i64.wrap ((0 : Int) - n)).toNat + (0 + ka))) * 1 ≤ (List.take ((IntKind.i64.wrap ((0 : Int) - n)).toNat * 1) (manyZeros (Value.int .i64 (0 : Int)).cells.toList (IntKind.i64.wrap ((0 : Int) - n)).toNat) ++ List.take ((0 + ka) * 1) (List.drop 0 (List.take (0 * 1) [] ++ ca))).length ∧ 0 < 1) (guardP ((0 + (0 + kb + (IntKind.i64.wrap ((0 : Int) - n)).toNat)) * 1 ≤ (List.take ((0 + kb) * 1) (List.take (0 * 1) [] ++ cb) ++ manyZeros (Value.int .i64 (0 : Int)).cells.toList (IntKind.i64.wrap ((0 : Int) - n)).toNat).length ∧ 0 < 1) (some (.agg [.list ((IntKind.i64.wrap ((0 : Int) - n)).toNat + (0 + ka)) (List.append (List.take ((IntKind.i64.wrap ((0 : Int) - n)).toNat * 1) (manyZeros (Value.int .i64 (0 : Int)).cells.toList (IntKind.i64.wrap ((0 : Int) - n)).toNat)) (List.take ((0 + ka) * 1) (List.drop 0 (List.take (0 * 1) [] ++ ca)))), .list (0 + kb + (IntKind.i64.wrap ((0 : Int) - n)).toNat) (List.append (List.take ((0 + kb) * 1) (List.take (0 * 1) [] ++ cb)) (manyZeros (Value.int .i64 (0 : Int)).cells.toList (IntKind.i64.wrap ((0 : Int) - n)).toNat))])))))))))))))
theorem shiftR_M_ok (ka : Nat) (ca : List D) (kb : Nat) (cb : List D) (n : Int) {r : D} (h : shiftR_M ka ca kb cb n = some r) : Con 33 [.agg [.list ka ca, .list kb cb], iD n] r := by
  unfold shiftR_M at h
  obtain ⟨f1_, h2_⟩ := guardP_elim h
  obtain ⟨f3_, h4_⟩ := guardP_elim h2_
  obtain ⟨f5_, h6_⟩ := guardP_elim h4_
  obtain ⟨f7_, h8_⟩ := guardP_elim h6_
  by_cases b9_ : n ≥ (0 : Int)
  · have h10_ := (if_pos b9_).symm.trans h8_
    obtain ⟨f11_, h12_⟩ := guardP_elim h10_
    obtain ⟨f13_, h14_⟩ := guardP_elim h12_
    obtain ⟨f15_, h16_⟩ := guardP_elim h14_
    obtain ⟨f17_, h18_⟩ := guardP_elim h16_
    obtain ⟨f19_, h20_⟩ := guardP_elim h18_
    obtain ⟨f21_, h22_⟩ := guardP_elim h20_
    obtain ⟨f23_, h24_⟩ := guardP_elim h22_
    obtain rfl := Option.some.inj h24_
    exact con_pc (op := true) (I := [33, 42]) (sp := shiftR_sp) 3000 (bT 1 []) [] [c_f f1_, c_f f3_, c_f f5_, c_f f7_, c_d b9_, c_f f11_, c_f f13_, c_f f15_, c_f f17_, c_f f19_, c_f f21_, c_f f23_] [] (by kernel_rfl)
  have h10_ := (if_neg b9_).symm.trans h8_
  obtain ⟨f25_, h26_⟩ := guardP_elim h10_
  obtain ⟨f27_, h28_⟩ := guardP_elim h26_
  obtain ⟨f29_, h30_⟩ := guardP_elim h28_
  obtain ⟨f31_, h32_⟩ := guardP_elim h30_
  obtain ⟨f33_, h34_⟩ := guardP_elim h32_
  obtain ⟨f35_, h36_⟩ := guardP_elim h34_
  obtain ⟨f37_, h38_⟩ := guardP_elim h36_
  obtain rfl := Option.some.inj h38_
  exact con_pc (op := true) (I := [33, 42]) (sp := shiftR_sp) 3000 (bF 1 []) [] [c_f f1_, c_f f3_, c_f f5_, c_f f7_, c_n b9_, c_f f25_, c_f f27_, c_f f29_, c_f f31_, c_f f33_, c_f f35_, c_f f37_] [] (by kernel_rfl)
def m_33 (ds : List D) : Option D := pullD (α := Nat × (List D) × Nat × (List D) × Int) (some (.tup ds)) (fun d => ((D.ln (D.at (D.at d 0) 0)), (D.lc (D.at (D.at d 0) 0)), (D.ln (D.at (D.at d 0) 1)), (D.lc (D.at (D.at d 0) 1)), (D.vi (D.at d 1)))) (fun (ka, ca, kb, cb, n) => .tup [.agg [.list ka ca, .list kb cb], iD n]) fun (ka, ca, kb, cb, n) => shiftR_M ka ca kb cb n
theorem m_33_ok {ds : List D} {r : D} (h : m_33 ds = some r) : Con 33 ds r := by
  unfold m_33 at h
  obtain ⟨⟨ka, ca, kb, cb, n⟩, e0, h0⟩ := pullD_elim h
  obtain rfl := tup_inj e0
  exact shiftR_M_ok ka ca kb cb n h0
theorem m_33_eq (ka : Nat) (ca : List D) (kb : Nat) (cb : List D) (n : Int) : m_33 [.agg [.list ka ca, .list kb cb], iD n] = shiftR_M ka ca kb cb n := pullD_some (ka, ca, kb, cb, n) rfl rfl
def productsR_sp : List LSpec := []
def productsR_M (a b c d : Int) : Option D := some (.agg [iD (if IntKind.i64.wrap (b * d) < if IntKind.i64.wrap (b * c) < if IntKind.i64.wrap (a * d) < IntKind.i64.wrap (a * c) then IntKind.i64.wrap (a * d) else IntKind.i64.wrap (a * c) then IntKind.i64.wrap (b * c) else if IntKind.i64.wrap (a * d) < IntKind.i64.wrap (a * c) then IntKind.i64.wrap (a * d) else IntKind.i64.wrap (a * c) then IntKind.i64.wrap (b * d) else if IntKind.i64.wrap (b * c) < if IntKind.i64.wrap (a * d) < IntKind.i64.wrap (a * c) then IntKind.i64.wrap (a * d) else IntKind.i64.wrap (a * c) then IntKind.i64.wrap (b * c) else if IntKind.i64.wrap (a * d) < IntKind.i64.wrap (a * c) then IntKind.i64.wrap (a * d) else IntKind.i64.wrap (a * c)), iD (if IntKind.i64.wrap (b * d) > if IntKind.i64.wrap (b * c) > if IntKind.i64.wrap (a * d) > IntKind.i64.wrap (a * c) then IntKind.i64.wrap (a * d) else IntKind.i64.wrap (a * c) then IntKind.i64.wrap (b * c) else if IntKind.i64.wrap (a * d) > IntKind.i64.wrap (a * c) then IntKind.i64.wrap (a * d) else IntKind.i64.wrap (a * c) then IntKind.i64.wrap (b * d) else if IntKind.i64.wrap (b * c) > if IntKind.i64.wrap (a * d) > IntKind.i64.wrap (a * c) then IntKind.i64.wrap (a * d) else IntKind.i64.wrap (a * c) then IntKind.i64.wrap (b * c) else if IntKind.i64.wrap (a * d) > IntKind.i64.wrap (a * c) then IntKind.i64.wrap (a * d) else IntKind.i64.wrap (a * c))])
theorem productsR_M_ok (a b c d : Int) {r : D} (h : productsR_M a b c d = some r) : Con 75 [.agg [iD a, iD b], .agg [iD c, iD d]] r := by
  unfold productsR_M at h
  obtain rfl := Option.some.inj h
  exact con_pc (op := true) (I := [75]) (sp := productsR_sp) 3000 [] [] [] [] (by kernel_rfl)
def m_75 (ds : List D) : Option D := pullD (α := Int × Int × Int × Int) (some (.tup ds)) (fun d => ((D.vi (D.at (D.at d 0) 0)), (D.vi (D.at (D.at d 0) 1)), (D.vi (D.at (D.at d 1) 0)), (D.vi (D.at (D.at d 1) 1)))) (fun (a, b, c, d) => .tup [.agg [iD a, iD b], .agg [iD c, iD d]]) fun (a, b, c, d) => productsR_M a b c d
theorem m_75_ok {ds : List D} {r : D} (h : m_75 ds = some r) : Con 75 ds r := by
  unfold m_75 at h
  obtain ⟨⟨a, b, c, d⟩, e0, h0⟩ := pullD_elim h
  obtain rfl := tup_inj e0
  exact productsR_M_ok a b c d h0
theorem m_75_eq (a b c d : Int) : m_75 [.agg [iD a, iD b], .agg [iD c, iD d]] = productsR_M a b c d := pullD_some (a, b, c, d) rfl rfl
def residR_x3_0 : LExit := ⟨some 0, [.grow 3 1], (4 :: (List.range' 6 26))⟩
def residR_sp : List LSpec := [⟨20, 3, [residR_x3_0]⟩]
def residR_L3_E (ka : Nat) (ca : List D) (kb : Nat) (cb : List D)  : List AV × AHeap := ([.agg [.dsl 0, .dsl 1], .ptr 2 0, .pure (.slice none 0 0), .bslx 4 0 1 0, .pure (.int .i64 (0 : Int)), .bslx 4 0 1 0, .pure (.tuple #[]), .pure (.tuple #[]), .pure (.tuple #[]), .pure (.tuple #[]), .pure (.tuple #[]), .pure (.tuple #[]), .pure (.tuple #[]), .pure (.tuple #[]), .pure (.tuple #[]), .pure (.tuple #[]), .pure (.tuple #[]), .pure (.tuple #[]), .pure (.tuple #[]), .pure (.tuple #[]), .pure (.tuple #[]), .pure (.tuple #[]), .pure (.tuple #[]), .pure (.tuple #[]), .pure (.tuple #[]), .pure (.tuple #[]), .pure (.tuple #[]), .pure (.tuple #[]), .pure (.tuple #[]), .pure (.tuple #[]), .pure (.tuple #[]), .pure (.tuple #[]), .pure (.tuple #[])], [(4, { cells := [], opn := some 1, kind := .big [iD (0 : Int)] }), (2, { cells := [.dsl 0, .dsl 1], opn := none, kind := .cells }), (1, { cells := [], opn := none, kind := .deep kb cb }), (0, { cells := [], opn := none, kind := .deep ka ca })])
def residR_L3_A : LoopAt := ⟨20, loopAt Try.prog 20 0, 5, 33, 4, noFrame⟩
theorem residR_L3_ok : (residR_L3_A).OK := ⟨by show 5 ≤ 33; decide, by show 4 ≤ 5; decide, by kernel_rfl, rfl⟩
def residR_L3_gs (ka : Nat) (ca : List D) (kb : Nat) (cb : List D)  : Go.Ev.Rd → Option GS
  | .next 0 ds => ghost [.grow 3 1, .val 4] (List.range' 6 26) (residR_L3_E ka ca kb cb).1 (residR_L3_E ka ca kb cb).2 5 ds
  | .out 0 ds => ghost residR_x3_0.live residR_x3_0.junk (residR_L3_E ka ca kb cb).1 (residR_L3_E ka ca kb cb).2 5 ds
  | _ => none
def residR_L3_ex : Nat → Option Nat
  | 0 => residR_x3_0.ex
  | _ => none
def residR_L3_ax : Go.Ev.Rd → AX
  | .next _ _ => .normal
  | .out j _ => axOf (residR_L3_ex j)
def residR_L3_S0 (ka : Nat) (ca : List D) (kb : Nat) (cb : List D)  (ds : List D) : Option Go.Ev.Rd := pullD (α := Nat × (List D) × Int) (some (.tup ds)) (fun d => ((D.ln (D.at d 0)), (D.lc (D.at d 0)), (D.vi (D.at d 1)))) (fun (s3n, s3c, s4) => .tup [.list s3n s3c, iD s4]) fun (s3n, s3c, s4) => ((if s4 < (ka : Int) then guardP ((0 : Int) ≤ s4 ∧ s4.toNat < s3n) (pullD (α := Int) (readD s3c (0 + s4.toNat * 1) 1 false) (fun d => ((D.vi d))) (fun v0 => iD v0) fun v0 => (guardP ((0 : Int) ≤ s4 ∧ s4.toNat < ka) (pullD (α := Int) (readD ca (s4.toNat * 1) 1 false) (fun d => ((D.vi d))) (fun v1 => iD v1) fun v1 => (guardP ((0 : Int) ≤ s4 ∧ s4.toNat < kb) (pullD (α := Int) (readD cb (s4.toNat * 1) 1 false) (fun d => ((D.vi d))) (fun v2 => iD v2) fun v2 => (guardP ((∀ (u : D), u ∈ [dCell (.int .i64 (IntKind.i64.wrap (IntKind.i64.wrap (v0 + v1) + v2)))] → cellD u) ∧ s3n * 1 ≤ s3c.length ∧ (s3n + (0 + 1)) * 8 ≤ 140737488355328 ∧ s3n + (0 + 1) ≤ 4611686018427387904) (some (.next 0 [.list (s3n + (0 + 1)) (List.append (List.take (s3n * 1) s3c) [dCell (.int .i64 (IntKind.i64.wrap (IntKind.i64.wrap (v0 + v1) + v2)))]), iD (IntKind.i64.wrap (s4 + (1 : Int)))])))))))) else some (.out 0 [.list s3n s3c])))
def residR_L3_S (ka : Nat) (ca : List D) (kb : Nat) (cb : List D)  : Go.Ev.Rd → Option Go.Ev.Rd
  | .next 0 ds => residR_L3_S0 ka ca kb cb ds
  | _ => none
theorem residR_L3_S_0 (ka : Nat) (ca : List D) (kb : Nat) (cb : List D)  (ds : List D) : residR_L3_S ka ca kb cb (.next 0 ds) = residR_L3_S0 ka ca kb cb ds := rfl
theorem residR_L3_S_ok (ka : Nat) (ca : List D) (kb : Nat) (cb : List D)  : ∀ s_ t_, residR_L3_S ka ca kb cb s_ = some t_ → Step (ctx [20] residR_sp) Tabs residR_L3_A (stateOf (residR_L3_gs ka ca kb cb s_)) (stateOf (residR_L3_gs ka ca kb cb t_)) (residR_L3_ax t_) ∧ EndOK residR_L3_A.nx residR_L3_A.low (residR_L3_gs ka ca kb cb) t_
  | .next 0 ds, t_, h => by
    have h_ : residR_L3_S0 ka ca kb cb ds = some t_ := h
    clear h
    unfold residR_L3_S0 at h_
    obtain ⟨⟨s3n, s3c, s4⟩, e0, h0⟩ := pullD_elim h_
    clear h_
    obtain rfl := tup_inj e0
    by_cases b1_ : s4 < (ka : Int)
    · have h2_ := (if_pos b1_).symm.trans h0
      obtain ⟨f3_, h4_⟩ := guardP_elim h2_
      obtain ⟨v0, f5_, h6_⟩ := pullD_elim h4_
      replace f5_ := readD_elim f5_
      obtain ⟨f7_, h8_⟩ := guardP_elim h6_
      obtain ⟨v1, f9_, h10_⟩ := pullD_elim h8_
      replace f9_ := readD_elim f9_
      obtain ⟨f11_, h12_⟩ := guardP_elim h10_
      obtain ⟨v2, f13_, h14_⟩ := pullD_elim h12_
      replace f13_ := readD_elim f13_
      obtain ⟨f15_, h16_⟩ := guardP_elim h14_
      obtain rfl := Option.some.inj h16_
      exact ⟨step_pc 3000 (bT 1 []) [iD v0, iD v1, iD v2] [c_d b1_, c_f f3_, c_f f5_, c_f f7_, c_f f9_, c_f f11_, c_f f13_, c_f f15_] [] _ rfl (by kernel_rfl) (by kernel_rfl) (by kernel_rfl) (by kernel_rfl) (by kernel_rfl) (by kernel_rfl), trivial⟩
    have h2_ := (if_neg b1_).symm.trans h0
    obtain rfl := Option.some.inj h2_
    exact ⟨step_pc 3000 (bF 1 []) [] [c_n b1_] [] _ rfl (by kernel_rfl) (by kernel_rfl) (by kernel_rfl) (by kernel_rfl) (by kernel_rfl) (by kernel_rfl), by kernel_rfl, by kernel_rfl⟩
  | .next (_ + 1) _, _, h => by cases h
  | .out _ _, _, h => by cases h
theorem residR_L3_go (ka : Nat) (ca : List D) (kb : Nat) (cb : List D)  {q : Nat} {ds : List D} {j : Nat} {es : List D} (h : runR (residR_L3_S ka ca kb cb) (.next q ds) = some (.out j es)) : Runs (ctx [20] residR_sp) Tabs residR_L3_A (stateOf (residR_L3_gs ka ca kb cb (.next q ds))) (stateOf (residR_L3_gs ka ca kb cb (.out j es))) (residR_L3_ax (.out j es)) ∧ (nxtOf (residR_L3_gs ka ca kb cb (.out j es)), lowGS (residR_L3_gs ka ca kb cb (.out j es))) = (residR_L3_A.nx, residR_L3_A.low) :=
  runs_of' (good true _ _) residR_L3_ok (ax := residR_L3_ax) (fun _ _ => rfl) (fun _ _ => axOf_end _) (residR_L3_S_ok ka ca kb cb) h
theorem residR_L3_in0 (ka : Nat) (ca : List D) (kb : Nat) (cb : List D)  {es : List D} (h : runR (residR_L3_S ka ca kb cb) (.next 0 [.list (1) ([iD (0 : Int)]), iD ((0 : Int))]) = some (.out 0 es)) : LoopC (loopAt Try.prog 20 0) (residR_L3_E ka ca kb cb) 5 noFrame residR_x3_0 es :=
  have r := residR_L3_go ka ca kb cb h
  loopin_as rfl (loop_in (l := residR_L3_A) (E := (residR_L3_E ka ca kb cb)) (S := stateOf (residR_L3_gs ka ca kb cb (.next 0 [.list (1) ([iD (0 : Int)]), iD ((0 : Int))]))) (ns := nsOf (residR_L3_gs ka ca kb cb (.next 0 [.list (1) ([iD (0 : Int)]), iD ((0 : Int))]))) residR_L3_ok r.1 r.2 (by kernel_rfl) (by kernel_rfl) (by kernel_rfl) (by kernel_rfl))
def residR_M (ka : Nat) (ca : List D) (kb : Nat) (cb : List D) : Option D := bindL (runR (residR_L3_S ka ca kb cb) (.next 0 [.list (1) ([iD (0 : Int)]), iD ((0 : Int))])) fun j ds => (if j = 0 then pullD (α := Nat × (List D)) (some (.tup ds)) (fun d => ((D.ln (D.at d 0)), (D.lc (D.at d 0)))) (fun (k0, c1) => .tup [.list k0 c1]) fun (k0, c1) => (guardP ((0 + k0) * 1 ≤ c1.length ∧ 0 < 1) (some (.list k0 c1))) else none)
theorem residR_M_ok (ka : Nat) (ca : List D) (kb : Nat) (cb : List D) {r : D} (h : residR_M ka ca kb cb = some r) : Con 20 [.agg [.list ka ca, .list kb cb]] r := by
  unfold residR_M at h
  obtain ⟨j, ds, e1_, h2_⟩ := bindL_elim h
  by_cases j3_ : j = 0
  · have h6_ := (if_pos j3_).symm.trans h2_
    clear h2_
    subst j3_
    obtain ⟨⟨k0, c1⟩, e4_, h7_⟩ := pullD_elim h6_
    clear h6_
    obtain rfl := tup_inj e4_
    have k5_ := residR_L3_in0 ka ca kb cb e1_
    obtain ⟨f8_, h9_⟩ := guardP_elim h7_
    obtain rfl := Option.some.inj h9_
    exact con_pc (op := true) (I := [20]) (sp := residR_sp) 3000 [] [.tup [iD (Int.ofNat 0), .list k0 c1]] [c_f f8_] [k_l k5_ [] [.tup [iD (Int.ofNat 0), .list k0 c1]] []] (by kernel_rfl)
  have h10_ := (if_neg j3_).symm.trans h2_
  clear h2_
  cases h10_
def m_20 (ds : List D) : Option D := pullD (α := Nat × (List D) × Nat × (List D)) (some (.tup ds)) (fun d => ((D.ln (D.at (D.at d 0) 0)), (D.lc (D.at (D.at d 0) 0)), (D.ln (D.at (D.at d 0) 1)), (D.lc (D.at (D.at d 0) 1)))) (fun (ka, ca, kb, cb) => .tup [.agg [.list ka ca, .list kb cb]]) fun (ka, ca, kb, cb) => residR_M ka ca kb cb
theorem m_20_ok {ds : List D} {r : D} (h : m_20 ds = some r) : Con 20 ds r := by
  unfold m_20 at h
  obtain ⟨⟨ka, ca, kb, cb⟩, e0, h0⟩ := pullD_elim h
  obtain rfl := tup_inj e0
  exact residR_M_ok ka ca kb cb h0
theorem m_20_eq (ka : Nat) (ca : List D) (kb : Nat) (cb : List D) : m_20 [.agg [.list ka ca, .list kb cb]] = residR_M ka ca kb cb := pullD_some (ka, ca, kb, cb) rfl rfl
def boundR_x5_0 : LExit := ⟨some 0, [.val 9, .cval 8 0, .cval 8 1], (List.range' 10 4 ++ (List.range' 17 67))⟩
def boundR_sp : List LSpec := [⟨61, 5, [boundR_x5_0]⟩]
def boundR_L5_E (ka : Nat) (ca : List D) (kb : Nat) (cb : List D) (kc : Nat) (cc : List D) (n : Int) (x0 : Nat) (x1 : List D) : List AV × AHeap := ([.agg [.dsl 0, .dsl 1], .dsl 2, .pure (.int .i64 n), .ptr 3 0, .pure (.tuple #[]), .pure (.tuple #[]), .pure (.int .i64 (0 : Int)), .dsl 4, .ptr 5 0, .pure (.int .i64 (0 : Int)), .pure (.int .i64 (0 : Int)), .pure (.tuple #[]), .pure (.tuple #[]), .pure (.tuple #[]), .agg [.dsl 0, .dsl 1], .dsl 4, .pure (.agg #[.int .i64 (0 : Int), .int .i64 (0 : Int)]), .pure (.tuple #[]), .pure (.tuple #[]), .pure (.tuple #[]), .pure (.tuple #[]), .pure (.tuple #[]), .pure (.tuple #[]), .pure (.tuple #[]), .pure (.tuple #[]), .pure (.tuple #[]), .pure (.tuple #[]), .pure (.tuple #[]), .pure (.tuple #[]), .pure (.tuple #[]), .pure (.tuple #[]), .pure (.tuple #[]), .pure (.tuple #[]), .pure (.tuple #[]), .pure (.tuple #[]), .pure (.tuple #[]), .pure (.tuple #[]), .pure (.tuple #[]), .pure (.tuple #[]), .pure (.tuple #[]), .pure (.tuple #[]), .pure (.tuple #[]), .pure (.tuple #[]), .pure (.tuple #[]), .pure (.tuple #[]), .pure (.tuple #[]), .pure (.tuple #[]), .pure (.tuple #[]), .pure (.tuple #[]), .pure (.tuple #[]), .pure (.tuple #[]), .pure (.tuple #[]), .pure (.tuple #[]), .pure (.tuple #[]), .pure (.tuple #[]), .pure (.tuple #[]), .pure (.tuple #[]), .pure (.tuple #[]), .pure (.tuple #[]), .pure (.tuple #[]), .pure (.tuple #[]), .pure (.tuple #[]), .pure (.tuple #[]), .pure (.tuple #[]), .pure (.tuple #[]), .pure (.tuple #[]), .pure (.tuple #[]), .pure (.tuple #[]), .pure (.tuple #[]), .pure (.tuple #[]), .pure (.tuple #[]), .pure (.tuple #[]), .pure (.tuple #[]), .pure (.tuple #[]), .pure (.tuple #[]), .pure (.tuple #[]), .pure (.tuple #[]), .pure (.tuple #[]), .pure (.tuple #[]), .pure (.tuple #[]), .pure (.tuple #[]), .pure (.tuple #[]), .pure (.tuple #[]), .pure (.tuple #[]), .pure (.tuple #[])], [(5, { cells := [.pure (.int .i64 (0 : Int)), .pure (.int .i64 (0 : Int))], opn := none, kind := .cells }), (4, { cells := [], opn := none, kind := .deep x0 x1 }), (3, { cells := [.dsl 0, .dsl 1], opn := none, kind := .cells }), (2, { cells := [], opn := none, kind := .deep kc cc }), (1, { cells := [], opn := none, kind := .deep kb cb }), (0, { cells := [], opn := none, kind := .deep ka ca })])
def boundR_L5_A : LoopAt := ⟨61, loopAt Try.prog 61 0, 6, 80, 5, noFrame⟩
theorem boundR_L5_ok : (boundR_L5_A).OK := ⟨by show 6 ≤ 80; decide, by show 5 ≤ 6; decide, by kernel_rfl, rfl⟩
def boundR_L5_gs (ka : Nat) (ca : List D) (kb : Nat) (cb : List D) (kc : Nat) (cc : List D) (n : Int) (x0 : Nat) (x1 : List D) : Go.Ev.Rd → Option GS
  | .next 0 ds => ghost [.val 9, .val 10, .cval 8 0, .cval 8 1] (11 :: (12 :: (13 :: (List.range' 17 67)))) (boundR_L5_E ka ca kb cb kc cc n x0 x1).1 (boundR_L5_E ka ca kb cb kc cc n x0 x1).2 6 ds
  | .out 0 ds => ghost boundR_x5_0.live boundR_x5_0.junk (boundR_L5_E ka ca kb cb kc cc n x0 x1).1 (boundR_L5_E ka ca kb cb kc cc n x0 x1).2 6 ds
  | _ => none
def boundR_L5_ex : Nat → Option Nat
  | 0 => boundR_x5_0.ex
  | _ => none
def boundR_L5_ax : Go.Ev.Rd → AX
  | .next _ _ => .normal
  | .out j _ => axOf (boundR_L5_ex j)
def boundR_L5_S0 (ka : Nat) (ca : List D) (kb : Nat) (cb : List D) (kc : Nat) (cc : List D) (n : Int) (x0 : Nat) (x1 : List D) (ds : List D) : Option Go.Ev.Rd := pullD (α := Int × Int × Int × Int) (some (.tup ds)) (fun d => ((D.vi (D.at d 0)), (D.vi (D.at d 1)), (D.vi (D.at d 2)), (D.vi (D.at d 3)))) (fun (s9, s10, s8_0, s8_1) => .tup [iD s9, iD s10, iD s8_0, iD s8_1]) fun (s9, s10, s8_0, s8_1) => ((if s10 < (kc : Int) then guardP ((0 : Int) ≤ s10 ∧ s10.toNat < x0) (pullD (α := Int) (readD x1 (s10.toNat * 1) 1 false) (fun d => ((D.vi d))) (fun v0 => iD v0) fun v0 => (guardP ((0 : Int) ≤ IntKind.i64.wrap (s10 + (1 : Int)) ∧ (IntKind.i64.wrap (s10 + (1 : Int))).toNat < x0) (pullD (α := Int) (readD x1 ((IntKind.i64.wrap (s10 + (1 : Int))).toNat * 1) 1 false) (fun d => ((D.vi d))) (fun v1 => iD v1) fun v1 => (guardP ((0 : Int) ≤ s10 ∧ s10.toNat < kc) (pullD (α := Int) (readD cc (s10.toNat * 1) 1 false) (fun d => ((D.vi d))) (fun v2 => iD v2) fun v2 => (pullD (α := Int) (readD cc (s10.toNat * 1) 1 false) (fun d => ((D.vi d))) (fun v3 => iD v3) fun v3 => (pullD (α := Int × Int) (m_75 [.agg [iD (IntKind.i64.wrap (v2 - n)), iD (IntKind.i64.wrap (v3 + n))], .agg [iD (IntKind.i64.wrap (IntKind.i64.wrap (v0 + v1) - IntKind.i64.wrap (IntKind.i64.wrap (IntKind.i64.wrap ((2 : Int) * n) * s10) + IntKind.i64.wrap (IntKind.i64.wrap ((2 : Int) * n) * IntKind.i64.wrap (s10 + (1 : Int)))))), iD (IntKind.i64.wrap (IntKind.i64.wrap (v0 + v1) + IntKind.i64.wrap (IntKind.i64.wrap (IntKind.i64.wrap ((2 : Int) * n) * s10) + IntKind.i64.wrap (IntKind.i64.wrap ((2 : Int) * n) * IntKind.i64.wrap (s10 + (1 : Int))))))]]) (fun d => ((D.vi (D.at d 0)), (D.vi (D.at d 1)))) (fun (r4, r5) => .agg [iD r4, iD r5]) fun (r4, r5) => (pullD (α := Int) (m_55 [iD (IntKind.i64.wrap (s8_0 + r4))]) (fun d => ((D.vi d))) (fun r6 => iD r6) fun r6 => (pullD (α := Int) (m_55 [iD (IntKind.i64.wrap (s8_1 + r5))]) (fun d => ((D.vi d))) (fun r7 => iD r7) fun r7 => (some (.next 0 [iD (if r7 > if r6 > s9 then r6 else s9 then r7 else if r6 > s9 then r6 else s9), iD (IntKind.i64.wrap (s10 + (1 : Int))), iD (IntKind.i64.wrap (s8_0 + r4)), iD (IntKind.i64.wrap (s8_1 + r5))]))))))))))) else some (.out 0 [iD s9, iD s8_0, iD s8_1])))
def boundR_L5_S (ka : Nat) (ca : List D) (kb : Nat) (cb : List D) (kc : Nat) (cc : List D) (n : Int) (x0 : Nat) (x1 : List D) : Go.Ev.Rd → Option Go.Ev.Rd
  | .next 0 ds => boundR_L5_S0 ka ca kb cb kc cc n x0 x1 ds
  | _ => none
theorem boundR_L5_S_0 (ka : Nat) (ca : List D) (kb : Nat) (cb : List D) (kc : Nat) (cc : List D) (n : Int) (x0 : Nat) (x1 : List D) (ds : List D) : boundR_L5_S ka ca kb cb kc cc n x0 x1 (.next 0 ds) = boundR_L5_S0 ka ca kb cb kc cc n x0 x1 ds := rfl
theorem boundR_L5_S_ok (ka : Nat) (ca : List D) (kb : Nat) (cb : List D) (kc : Nat) (cc : List D) (n : Int) (x0 : Nat) (x1 : List D) : ∀ s_ t_, boundR_L5_S ka ca kb cb kc cc n x0 x1 s_ = some t_ → Step (ctx [61] boundR_sp) Tabs boundR_L5_A (stateOf (boundR_L5_gs ka ca kb cb kc cc n x0 x1 s_)) (stateOf (boundR_L5_gs ka ca kb cb kc cc n x0 x1 t_)) (boundR_L5_ax t_) ∧ EndOK boundR_L5_A.nx boundR_L5_A.low (boundR_L5_gs ka ca kb cb kc cc n x0 x1) t_
  | .next 0 ds, t_, h => by
    have h_ : boundR_L5_S0 ka ca kb cb kc cc n x0 x1 ds = some t_ := h
    clear h
    unfold boundR_L5_S0 at h_
    obtain ⟨⟨s9, s10, s8_0, s8_1⟩, e0, h0⟩ := pullD_elim h_
    clear h_
    obtain rfl := tup_inj e0
    by_cases b1_ : s10 < (kc : Int)
    · have h2_ := (if_pos b1_).symm.trans h0
      obtain ⟨f3_, h4_⟩ := guardP_elim h2_
      obtain ⟨v0, f5_, h6_⟩ := pullD_elim h4_
      replace f5_ := readD_elim f5_
      obtain ⟨f7_, h8_⟩ := guardP_elim h6_
      obtain ⟨v1, f9_, h10_⟩ := pullD_elim h8_
      replace f9_ := readD_elim f9_
      obtain ⟨f11_, h12_⟩ := guardP_elim h10_
      obtain ⟨v2, f13_, h14_⟩ := pullD_elim h12_
      replace f13_ := readD_elim f13_
      obtain ⟨v3, f15_, h16_⟩ := pullD_elim h14_
      replace f15_ := readD_elim f15_
      obtain ⟨⟨r4, r5⟩, f17_, h18_⟩ := pullD_elim h16_
      replace f17_ := m_75_ok f17_
      obtain ⟨r6, f19_, h20_⟩ := pullD_elim h18_
      replace f19_ := m_55_ok f19_
      obtain ⟨r7, f21_, h22_⟩ := pullD_elim h20_
      replace f21_ := m_55_ok f21_
      obtain rfl := Option.some.inj h22_
      exact ⟨step_pc 3000 (bT 1 []) [iD v0, iD v1, iD v2, iD v3, .agg [iD r4, iD r5], iD r6, iD r7] [c_d b1_, c_f f3_, c_f f5_, c_f f7_, c_f f9_, c_f f11_, c_f f13_, c_f f11_, c_f f15_] [k_c f17_, k_c f19_, k_c f21_] _ rfl (by kernel_rfl) (by kernel_rfl) (by kernel_rfl) (by kernel_rfl) (by kernel_rfl) (by kernel_rfl), trivial⟩
    have h2_ := (if_neg b1_).symm.trans h0
    obtain rfl := Option.some.inj h2_
    exact ⟨step_pc 3000 (bF 1 []) [] [c_n b1_] [] _ rfl (by kernel_rfl) (by kernel_rfl) (by kernel_rfl) (by kernel_rfl) (by kernel_rfl) (by kernel_rfl), by kernel_rfl, by kernel_rfl⟩
  | .next (_ + 1) _, _, h => by cases h
  | .out _ _, _, h => by cases h
theorem boundR_L5_go (ka : Nat) (ca : List D) (kb : Nat) (cb : List D) (kc : Nat) (cc : List D) (n : Int) (x0 : Nat) (x1 : List D) {q : Nat} {ds : List D} {j : Nat} {es : List D} (h : runR (boundR_L5_S ka ca kb cb kc cc n x0 x1) (.next q ds) = some (.out j es)) : Runs (ctx [61] boundR_sp) Tabs boundR_L5_A (stateOf (boundR_L5_gs ka ca kb cb kc cc n x0 x1 (.next q ds))) (stateOf (boundR_L5_gs ka ca kb cb kc cc n x0 x1 (.out j es))) (boundR_L5_ax (.out j es)) ∧ (nxtOf (boundR_L5_gs ka ca kb cb kc cc n x0 x1 (.out j es)), lowGS (boundR_L5_gs ka ca kb cb kc cc n x0 x1 (.out j es))) = (boundR_L5_A.nx, boundR_L5_A.low) :=
  runs_of' (good true _ _) boundR_L5_ok (ax := boundR_L5_ax) (fun _ _ => rfl) (fun _ _ => axOf_end _) (boundR_L5_S_ok ka ca kb cb kc cc n x0 x1) h
theorem boundR_L5_in0 (ka : Nat) (ca : List D) (kb : Nat) (cb : List D) (kc : Nat) (cc : List D) (n : Int) (x0 : Nat) (x1 : List D) {es : List D} (h : runR (boundR_L5_S ka ca kb cb kc cc n x0 x1) (.next 0 [iD ((0 : Int)), iD ((0 : Int)), iD ((0 : Int)), iD ((0 : Int))]) = some (.out 0 es)) : LoopC (loopAt Try.prog 61 0) (boundR_L5_E ka ca kb cb kc cc n x0 x1) 6 noFrame boundR_x5_0 es :=
  have r := boundR_L5_go ka ca kb cb kc cc n x0 x1 h
  loopin_as rfl (loop_in (l := boundR_L5_A) (E := (boundR_L5_E ka ca kb cb kc cc n x0 x1)) (S := stateOf (boundR_L5_gs ka ca kb cb kc cc n x0 x1 (.next 0 [iD ((0 : Int)), iD ((0 : Int)), iD ((0 : Int)), iD ((0 : Int))]))) (ns := nsOf (boundR_L5_gs ka ca kb cb kc cc n x0 x1 (.next 0 [iD ((0 : Int)), iD ((0 : Int)), iD ((0 : Int)), iD ((0 : Int))]))) boundR_L5_ok r.1 r.2 (by kernel_rfl) (by kernel_rfl) (by kernel_rfl) (by kernel_rfl))
def boundR_M (ka : Nat) (ca : List D) (kb : Nat) (cb : List D) (kc : Nat) (cc : List D) (n : Int) : Option D := pullD (α := Nat × (List D)) (m_20 [.agg [.list ka ca, .list kb cb]]) (fun d => ((D.ln d), (D.lc d))) (fun (k0, c1) => .list k0 c1) fun (k0, c1) => (bindL (runR (boundR_L5_S ka ca kb cb kc cc n k0 c1) (.next 0 [iD ((0 : Int)), iD ((0 : Int)), iD ((0 : Int)), iD ((0 : Int))])) fun j ds => (if j = 0 then pullD (α := Int × Int × Int) (some (.tup ds)) (fun d => ((D.vi (D.at d 0)), (D.vi (D.at d 1)), (D.vi (D.at d 2)))) (fun (l2, l3, l4) => .tup [iD l2, iD l3, iD l4]) fun (l2, l3, l4) => (some (iD l2)) else none))
theorem boundR_M_ok (ka : Nat) (ca : List D) (kb : Nat) (cb : List D) (kc : Nat) (cc : List D) (n : Int) {r : D} (h : boundR_M ka ca kb cb kc cc n = some r) : Con 61 [.agg [.list ka ca, .list kb cb], .list kc cc, iD n] r := by
  unfold boundR_M at h
  obtain ⟨⟨k0, c1⟩, f1_, h2_⟩ := pullD_elim h
  replace f1_ := m_20_ok f1_
  obtain ⟨j, ds, e3_, h4_⟩ := bindL_elim h2_
  by_cases j5_ : j = 0
  · have h8_ := (if_pos j5_).symm.trans h4_
    clear h4_
    subst j5_
    obtain ⟨⟨l2, l3, l4⟩, e6_, h9_⟩ := pullD_elim h8_
    clear h8_
    obtain rfl := tup_inj e6_
    have k7_ := boundR_L5_in0 ka ca kb cb kc cc n k0 c1 e3_
    obtain rfl := Option.some.inj h9_
    exact con_pc (op := true) (I := [61]) (sp := boundR_sp) 3000 [] [.list k0 c1, .tup [iD (Int.ofNat 0), iD l2, iD l3, iD l4]] [] [k_c f1_, k_l k7_ [] [.tup [iD (Int.ofNat 0), iD l2, iD l3, iD l4]] []] (by kernel_rfl)
  have h10_ := (if_neg j5_).symm.trans h4_
  clear h4_
  cases h10_
def m_61 (ds : List D) : Option D := pullD (α := Nat × (List D) × Nat × (List D) × Nat × (List D) × Int) (some (.tup ds)) (fun d => ((D.ln (D.at (D.at d 0) 0)), (D.lc (D.at (D.at d 0) 0)), (D.ln (D.at (D.at d 0) 1)), (D.lc (D.at (D.at d 0) 1)), (D.ln (D.at d 1)), (D.lc (D.at d 1)), (D.vi (D.at d 2)))) (fun (ka, ca, kb, cb, kc, cc, n) => .tup [.agg [.list ka ca, .list kb cb], .list kc cc, iD n]) fun (ka, ca, kb, cb, kc, cc, n) => boundR_M ka ca kb cb kc cc n
theorem m_61_ok {ds : List D} {r : D} (h : m_61 ds = some r) : Con 61 ds r := by
  unfold m_61 at h
  obtain ⟨⟨ka, ca, kb, cb, kc, cc, n⟩, e0, h0⟩ := pullD_elim h
  obtain rfl := tup_inj e0
  exact boundR_M_ok ka ca kb cb kc cc n h0
theorem m_61_eq (ka : Nat) (ca : List D) (kb : Nat) (cb : List D) (kc : Nat) (cc : List D) (n : Int) : m_61 [.agg [.list ka ca, .list kb cb], .list kc cc, iD n] = boundR_M ka ca kb cb kc cc n := pullD_some (ka, ca, kb, cb, kc, cc, n) rfl rfl
def thrustBR_sp : List LSpec := []
def thrustBR_M (ka : Nat) (ca : List D) (kb : Nat) (cb : List D) (n : Int) : Option D := pullD (α := Int) (m_61 [.agg [.list ka ca, .list kb cb], .list ka ca, iD n]) (fun d => ((D.vi d))) (fun r0 => iD r0) fun r0 => (pullD (α := Int) (m_61 [.agg [.list ka ca, .list kb cb], .list kb cb, iD n]) (fun d => ((D.vi d))) (fun r1 => iD r1) fun r1 => (some (.agg [iD r0, iD r1])))
theorem thrustBR_M_ok (ka : Nat) (ca : List D) (kb : Nat) (cb : List D) (n : Int) {r : D} (h : thrustBR_M ka ca kb cb n = some r) : Con 34 [.agg [.list ka ca, .list kb cb], iD n] r := by
  unfold thrustBR_M at h
  obtain ⟨r0, f1_, h2_⟩ := pullD_elim h
  replace f1_ := m_61_ok f1_
  obtain ⟨r1, f3_, h4_⟩ := pullD_elim h2_
  replace f3_ := m_61_ok f3_
  obtain rfl := Option.some.inj h4_
  exact con_pc (op := true) (I := [34]) (sp := thrustBR_sp) 3000 [] [iD r0, iD r1] [] [k_c f1_, k_c f3_] (by kernel_rfl)
def m_34 (ds : List D) : Option D := pullD (α := Nat × (List D) × Nat × (List D) × Int) (some (.tup ds)) (fun d => ((D.ln (D.at (D.at d 0) 0)), (D.lc (D.at (D.at d 0) 0)), (D.ln (D.at (D.at d 0) 1)), (D.lc (D.at (D.at d 0) 1)), (D.vi (D.at d 1)))) (fun (ka, ca, kb, cb, n) => .tup [.agg [.list ka ca, .list kb cb], iD n]) fun (ka, ca, kb, cb, n) => thrustBR_M ka ca kb cb n
theorem m_34_ok {ds : List D} {r : D} (h : m_34 ds = some r) : Con 34 ds r := by
  unfold m_34 at h
  obtain ⟨⟨ka, ca, kb, cb, n⟩, e0, h0⟩ := pullD_elim h
  obtain rfl := tup_inj e0
  exact thrustBR_M_ok ka ca kb cb n h0
theorem m_34_eq (ka : Nat) (ca : List D) (kb : Nat) (cb : List D) (n : Int) : m_34 [.agg [.list ka ca, .list kb cb], iD n] = thrustBR_M ka ca kb cb n := pullD_some (ka, ca, kb, cb, n) rfl rfl
end
end Go.Proofs.Ytbfefnfmdkgfjaa
/- Windows shifted and mirrored, bounds: the reference's answers. -/
namespace Go.Proofs.Ytbfefnfmdkgfjaa
open Go.Ev Go.RowKit
set_option maxRecDepth 100000
section
variable {a b : List Int}
theorem foldW (a b : List Int) : D.agg [D.list a.length (a.map iD), D.list b.length (b.map iD)] = wnD a b := rfl
theorem foldW2 (a b : List Int) (n : Int) : [D.agg [D.list a.length (a.map iD), D.list b.length (b.map iD)], iD n] = [wnD a b, iD n] := rfl
theorem residR_eq (h : Win a b) : m_20 [wnD a b] = some (lD (tab (a.length + 1) (rs a b))) := by
  have hle := h.le
  have hlen := h.len
  rw [m_20_eq]
  unfold residR_M
  have h1 : runR (residR_L3_S a.length (a.map iD) b.length (b.map iD)) (.next 0 [.list 1 [iD 0], iD 0]) = _ := runR_scan (S := residR_L3_S a.length (a.map iD) b.length (b.map iD)) (fun _ => 0) (fun i => [lD (tab (i + 1) (rs a b)), iD (i : Int)]) (Nat.zero_le a.length) (fun i _ hi => by
    show residR_L3_S0 a.length (a.map iD) b.length (b.map iD) _ = _
    unfold residR_L3_S0
    rw [pullD_some ((tab (i + 1) (rs a b)).length, (tab (i + 1) (rs a b)).map iD, (i : Int)) (by rfl) (by rfl)]
    dsimp only
    have q0 := rs_bound h (k := i) (by omega)
    have q1 := rs_bound h (k := i + 1) (by omega)
    have q2 := h.ra i
    have q3 := h.rb i
    have e1 : rs a b (i + 1) = rs a b i + (at' a i + at' b i) := rfl
    have e2 : IntKind.i64.wrap ((i : Int) + 1) = ((i + 1 : Nat) : Int) := natI (by omega)
    simp only [e2, Int.toNat_natCast]
    rw [if_pos (by omega), guardP_pos (by rw [tab_len]; omega), readM0 _ (by omega), pullD_some (rs a b i) (by rfl) (by rfl), guardP_pos (by omega), readN hi, pullD_some (at' a i) (by rfl) (by rfl), guardP_pos (by omega), readN (by omega), pullD_some (at' b i) (by rfl) (by rfl),
      wrapJ (rs a b i + at' a i) (by omega) (by omega), wrapJ (rs a b i + at' a i + at' b i) (by omega) (by omega), show rs a b i + at' a i + at' b i = rs a b (i + 1) by omega,
      guardP_pos ⟨cellD_int _, by simp, by simp only [tab_len]; omega, by simp only [tab_len]; omega⟩, grow_list, ← tab_succ])
  have h2 : runR (residR_L3_S a.length (a.map iD) b.length (b.map iD)) (.next 0 [lD (tab (a.length + 1) (rs a b)), iD (a.length : Int)]) = some (.out 0 [lD (tab (a.length + 1) (rs a b))]) := runR_exit (by
    show residR_L3_S0 a.length (a.map iD) b.length (b.map iD) _ = _
    unfold residR_L3_S0
    rw [pullD_some ((tab (a.length + 1) (rs a b)).length, (tab (a.length + 1) (rs a b)).map iD, (a.length : Int)) (by rfl) (by rfl)]
    dsimp only
    rw [if_neg (by omega)])
  rw [bindL_some (h1.trans h2), if_pos rfl, pullD_some ((tab (a.length + 1) (rs a b)).length, (tab (a.length + 1) (rs a b)).map iD) (by rfl) (by rfl)]
  dsimp only
  rw [guardP_pos ⟨by simp, by omega⟩]
theorem products_eq {a b c d : Int} (h1 : -1000 ≤ a ∧ a ≤ 1000) (h2 : -1000 ≤ b ∧ b ≤ 1000) (h3 : -1000000 ≤ c ∧ c ≤ 1000000) (h4 : -1000000 ≤ d ∧ d ≤ 1000000) :
    m_75 [.agg [iD a, iD b], .agg [iD c, iD d]] = some (.agg [iD (mn4 a b c d), iD (mx4 a b c d)]) := by
  rw [m_75_eq]
  unfold productsR_M
  have e1 := mulB (A := 1000) (B := 1000000) h1.1 h1.2 h3.1 h3.2
  have e2 := mulB (A := 1000) (B := 1000000) h1.1 h1.2 h4.1 h4.2
  have e3 := mulB (A := 1000) (B := 1000000) h2.1 h2.2 h3.1 h3.2
  have e4 := mulB (A := 1000) (B := 1000000) h2.1 h2.2 h4.1 h4.2
  rw [wrapJ (a * c) (by omega) (by omega), wrapJ (a * d) (by omega) (by omega), wrapJ (b * c) (by omega) (by omega), wrapJ (b * d) (by omega) (by omega)]
  have lt : ∀ x y : Int, (if x < y then x else y) = min x y := fun x y => by split <;> omega
  have gt : ∀ x y : Int, (if x > y then x else y) = max x y := fun x y => by split <;> omega
  rw [lt (a * d) (a * c), lt, lt, gt (a * d) (a * c), gt, gt]
  rfl
theorem sizeB {n : Int} (h1 : -1000000000000 ≤ n) (h2 : n ≤ 1000000000000) : m_55 [iD n] = some (iD (max n (-n))) := by
  rw [m_55_eq]
  unfold size_M
  rw [wrapJ (0 - n) (by omega) (by omega), Int.zero_sub]
  congr 2
  split <;> omega
theorem lo_hi (t a b : List Int) (e : Int) (k : Nat) : lo t a b e k ≤ hi t a b e k := sumTo_mono fun i _ => by
  unfold pn px mn4 mx4
  omega
theorem max_two (r6 r7 s9 : Int) : (if r7 > if r6 > s9 then r6 else s9 then r7 else if r6 > s9 then r6 else s9) = max (max s9 r6) r7 := by
  split <;> split <;> omega
theorem boundR_eq (h : Win a b) {t : List Int} (hlt : t.length = a.length) (ht : ∀ i, -100 ≤ at' t i ∧ at' t i ≤ 100) {e : Int} (h0 : 0 ≤ e) (he : e ≤ 20) : m_61 [wnD a b, lD t, iD e] = some (iD (bd t a b e a.length)) := by
  have hle := h.le
  rw [show m_61 [wnD a b, lD t, iD e] = boundR_M a.length (a.map iD) b.length (b.map iD) t.length (t.map iD) e from m_61_eq _ _ _ _ _ _ _]
  unfold boundR_M
  rw [foldW, residR_eq h, pullD_some (a.length + 1, (tab (a.length + 1) (rs a b)).map iD) (by simp only [lD, tab_len]) (by rfl)]
  dsimp only
  have s1 : runR (boundR_L5_S a.length (a.map iD) b.length (b.map iD) t.length (t.map iD) e (a.length + 1) ((tab (a.length + 1) (rs a b)).map iD)) (.next 0 [iD 0, iD 0, iD 0, iD 0]) = _ := runR_scan (S := boundR_L5_S a.length (a.map iD) b.length (b.map iD) t.length (t.map iD) e (a.length + 1) ((tab (a.length + 1) (rs a b)).map iD)) (fun _ => 0) (fun i => [iD (bd t a b e i), iD (i : Int), iD (lo t a b e i), iD (hi t a b e i)]) (Nat.zero_le a.length) (fun i _ hi' => by
    have b1 := rs_bound h (k := i) (by omega)
    have b2 := rs_bound h (k := i + 1) (by omega)
    have b3 := ht i
    have b4 := du_le h0 he (k := i) (by omega)
    have b5 := du_nonneg h0 i
    have b6 := p_bound h ht h0 he (k := i) (by omega)
    have b7 := lohi_bound h ht h0 he (k := i) (by omega)
    have b8 := lohi_bound h ht h0 he (k := i + 1) (by omega)
    have b9 := bd_bound h ht h0 he (k := i) (by omega)
    have b10 := lo_hi t a b e (i + 1)
    show boundR_L5_S0 a.length (a.map iD) b.length (b.map iD) t.length (t.map iD) e (a.length + 1) ((tab (a.length + 1) (rs a b)).map iD) _ = _
    unfold boundR_L5_S0
    rw [pullD_some (bd t a b e i, (i : Int), lo t a b e i, hi t a b e i) (by rfl) (by rfl)]
    dsimp only
    have e2 : IntKind.i64.wrap ((i : Int) + 1) = ((i + 1 : Nat) : Int) := natI (by omega)
    have m1 := mulB (x := 2 * e) (y := (i : Int)) (A := 40) (B := 16) (by omega) (by omega) (by omega) (by omega)
    have m2 := mulB (x := 2 * e) (y := ((i + 1 : Nat) : Int)) (A := 40) (B := 16) (by omega) (by omega) (by omega) (by omega)
    have e3 : IntKind.i64.wrap (IntKind.i64.wrap (IntKind.i64.wrap (2 * e) * (i : Int)) + IntKind.i64.wrap (IntKind.i64.wrap (2 * e) * ((i + 1 : Nat) : Int))) = du e i := by
      rw [wrapJ (2 * e) (by omega) (by omega), wrapJ (2 * e * (i : Int)) (by omega) (by omega), wrapJ (2 * e * ((i + 1 : Nat) : Int)) (by omega) (by omega), wrapJ _ (by omega) (by omega)]
      unfold du
      rw [← Int.mul_add, show (i : Int) + ((i + 1 : Nat) : Int) = (i : Int) + i + 1 by omega]
    simp only [e2, e3, Int.toNat_natCast]
    rw [if_pos (by omega), guardP_pos (by omega), readM _ (by omega), pullD_some (rs a b i) (by rfl) (by rfl), guardP_pos (by omega), readM _ (by omega), pullD_some (rs a b (i + 1)) (by rfl) (by rfl), guardP_pos (by omega), readN (by omega), pullD_some (at' t i) (by rfl) (by rfl), pullD_some (at' t i) (by rfl) (by rfl),
      wrapJ (rs a b i + rs a b (i + 1)) (by omega) (by omega), wrapJ (at' t i - e) (by omega) (by omega), wrapJ (at' t i + e) (by omega) (by omega), wrapJ (rs a b i + rs a b (i + 1) - du e i) (by omega) (by omega), wrapJ (rs a b i + rs a b (i + 1) + du e i) (by omega) (by omega),
      products_eq (by omega) (by omega) (by omega) (by omega), pullD_some (pn t a b e i, px t a b e i) (by rfl) (by rfl)]
    dsimp only
    have e5 : lo t a b e i + pn t a b e i = lo t a b e (i + 1) := rfl
    have e6 : hi t a b e i + px t a b e i = hi t a b e (i + 1) := rfl
    have e7 : bd t a b e (i + 1) = max (max (bd t a b e i) (hi t a b e (i + 1))) (-lo t a b e (i + 1)) := rfl
    rw [e5, e6, wrapJ (lo t a b e (i + 1)) (by omega) (by omega), wrapJ (hi t a b e (i + 1)) (by omega) (by omega), sizeB (by omega) (by omega), pullD_some _ (by rfl) (by rfl), sizeB (by omega) (by omega), pullD_some _ (by rfl) (by rfl), max_two, e7]
    congr 4
    omega)
  have s2 : runR (boundR_L5_S a.length (a.map iD) b.length (b.map iD) t.length (t.map iD) e (a.length + 1) ((tab (a.length + 1) (rs a b)).map iD)) (.next 0 [iD (bd t a b e a.length), iD (a.length : Int), iD (lo t a b e a.length), iD (hi t a b e a.length)]) = some (.out 0 [iD (bd t a b e a.length), iD (lo t a b e a.length), iD (hi t a b e a.length)]) := runR_exit (by
    show boundR_L5_S0 a.length (a.map iD) b.length (b.map iD) t.length (t.map iD) e (a.length + 1) ((tab (a.length + 1) (rs a b)).map iD) _ = _
    unfold boundR_L5_S0
    rw [pullD_some (bd t a b e a.length, (a.length : Int), lo t a b e a.length, hi t a b e a.length) (by rfl) (by rfl)]
    dsimp only
    rw [if_neg (by omega)])
  rw [bindL_some (s1.trans s2), if_pos rfl, pullD_some (bd t a b e a.length, lo t a b e a.length, hi t a b e a.length) (by rfl) (by rfl)]
theorem thrustBR_eq (h : Win a b) {e : Int} (h0 : 0 ≤ e) (he : e ≤ 20) : m_34 [wnD a b, iD e] = some (.agg [iD (bd a a b e a.length), iD (bd b a b e a.length)]) := by
  rw [m_34_eq]
  unfold thrustBR_M
  rw [show [D.agg [D.list a.length (a.map iD), D.list b.length (b.map iD)], D.list a.length (a.map iD), iD e] = [wnD a b, lD a, iD e] from rfl, boundR_eq h rfl h.ra h0 he, pullD_some _ (by rfl) (by rfl),
    show [D.agg [D.list a.length (a.map iD), D.list b.length (b.map iD)], D.list b.length (b.map iD), iD e] = [wnD a b, lD b, iD e] from rfl, boundR_eq h h.len h.rb h0 he, pullD_some _ (by rfl) (by rfl)]
theorem mirrR_eq (h : Win a b) : m_31 [wnD a b] = some (wnD (mir a) (mir b)) := by
  have hp := h.pos
  have hle := h.le
  have hlen := h.len
  rw [m_31_eq]
  unfold mirrR_M
  let f : Nat → Int := fun j => at' a (a.length - 1 - j)
  let g : Nat → Int := fun j => at' b (b.length - 1 - j)
  have hw0 : IntKind.i64.wrap ((a.length : Int) - 1) = (a.length : Int) - 1 := wrapJ _ (by omega) (by omega)
  have s0 : mirrR_L3_S a.length (a.map iD) b.length (b.map iD) (.next 3 [iD ((a.length : Int) - 1), .one (.tuple #[]), .one (.tuple #[])]) = some (.next 0 [iD ((a.length : Int) - 1 - ((1 : Nat) : Int)), lD (tab 1 f), lD (tab 1 g)]) := by
    show mirrR_L3_S3 a.length (a.map iD) b.length (b.map iD) _ = _
    unfold mirrR_L3_S3
    rw [pullD_some ((a.length : Int) - 1) (by rfl) (by rfl)]
    have e1 : ((a.length : Int) - 1).toNat = a.length - 1 := by omega
    simp only [e1]
    rw [if_pos (by omega), guardP_pos (by omega), readN (by omega), pullD_some (at' a (a.length - 1)) (by rfl) (by rfl), guardP_pos (by omega), readN (by omega), pullD_some (at' b (a.length - 1)) (by rfl) (by rfl), wrapJ _ (by omega) (by omega)]
    have e2 : tab 1 f = [at' a (a.length - 1)] := rfl
    have e3 : tab 1 g = [at' b (a.length - 1)] := by show [at' b (b.length - 1 - 0)] = _; rw [hlen, Nat.sub_zero]
    rw [e2, e3]
    rfl
  have s1 : runR (mirrR_L3_S a.length (a.map iD) b.length (b.map iD)) (.next 0 [iD ((a.length : Int) - 1 - ((1 : Nat) : Int)), lD (tab 1 f), lD (tab 1 g)]) = _ := runR_scan (S := mirrR_L3_S a.length (a.map iD) b.length (b.map iD)) (fun _ => 0) (fun i => [iD ((a.length : Int) - 1 - (i : Int)), lD (tab i f), lD (tab i g)]) (show 1 ≤ a.length by omega) (fun i _ hi => by
    show mirrR_L3_S0 a.length (a.map iD) b.length (b.map iD) _ = _
    unfold mirrR_L3_S0
    rw [pullD_some ((a.length : Int) - 1 - (i : Int), (tab i f).length, (tab i f).map iD, (tab i g).length, (tab i g).map iD) (by rfl) (by rfl)]
    dsimp only
    have e1 : ((a.length : Int) - 1 - (i : Int)).toNat = a.length - 1 - i := by omega
    simp only [e1]
    rw [if_pos (by omega), guardP_pos (by omega), readN (by omega), pullD_some (at' a (a.length - 1 - i)) (by rfl) (by rfl), guardP_pos ⟨cellD_int _, by simp, by simp only [tab_len]; omega, by simp only [tab_len]; omega⟩,
      guardP_pos (by omega), readN (by omega), pullD_some (at' b (a.length - 1 - i)) (by rfl) (by rfl), guardP_pos ⟨cellD_int _, by simp, by simp only [tab_len]; omega, by simp only [tab_len]; omega⟩, grow_list, grow_list, wrapJ _ (by omega) (by omega)]
    have e2 : tab i f ++ [at' a (a.length - 1 - i)] = tab (i + 1) f := (tab_succ i f).symm
    have e3 : tab i g ++ [at' b (a.length - 1 - i)] = tab (i + 1) g := by rw [← hlen]; exact (tab_succ i g).symm
    rw [e2, e3, show (a.length : Int) - 1 - (i : Int) - 1 = (a.length : Int) - 1 - ((i + 1 : Nat) : Int) by omega])
  have s2 : runR (mirrR_L3_S a.length (a.map iD) b.length (b.map iD)) (.next 0 [iD ((a.length : Int) - 1 - (a.length : Int)), lD (tab a.length f), lD (tab a.length g)]) = some (.out 0 [lD (tab a.length f), lD (tab a.length g)]) := runR_exit (by
    show mirrR_L3_S0 a.length (a.map iD) b.length (b.map iD) _ = _
    unfold mirrR_L3_S0
    rw [pullD_some ((a.length : Int) - 1 - (a.length : Int), (tab a.length f).length, (tab a.length f).map iD, (tab a.length g).length, (tab a.length g).map iD) (by rfl) (by rfl)]
    dsimp only
    rw [if_neg (by omega)])
  rw [hw0, bindL_some ((runR_next s0).trans (s1.trans s2)), if_pos rfl, pullD_some ((tab a.length f).length, (tab a.length f).map iD, (tab a.length g).length, (tab a.length g).map iD) (by rfl) (by rfl)]
  dsimp only
  rw [guardP_pos ⟨by simp, by omega⟩, guardP_pos ⟨by simp, by omega⟩]
  have e4 : mir b = tab a.length g := by rw [← hlen]; rfl
  show some (wnD (tab a.length f) (tab a.length g)) = _
  rw [e4]
  rfl
theorem pad_back (l : List Int) (y : Nat) : pad l 0 y = l ++ tab y fun _ => 0 := by
  apply List.ext_getElem?
  intro i
  unfold pad
  by_cases h1 : i < l.length
  · rw [tab_get _ (by omega), List.getElem?_append_left h1, if_pos (by omega), Nat.sub_zero, at_get h1]
  · rw [List.getElem?_append_right (by omega)]
    by_cases h2 : i < l.length + y
    · rw [tab_get _ (by omega), tab_get _ (by omega), if_neg (by omega)]
    · rw [List.getElem?_eq_none (by rw [tab_len]; omega), List.getElem?_eq_none (by rw [tab_len]; omega)]
theorem pad_front (l : List Int) (x : Nat) : pad l x 0 = (tab x fun _ => 0) ++ l := by
  apply List.ext_getElem?
  intro i
  unfold pad
  by_cases h1 : i < x
  · rw [tab_get _ (by omega), List.getElem?_append_left (by rw [tab_len]; exact h1), tab_get _ h1, if_neg (by omega)]
  · rw [List.getElem?_append_right (by rw [tab_len]; omega), tab_len]
    by_cases h2 : i < x + l.length
    · rw [tab_get _ (by omega), if_pos (by omega), at_get (by omega)]
    · rw [List.getElem?_eq_none (by rw [tab_len]; omega), List.getElem?_eq_none (by omega)]
theorem takeA (l : List Int) : List.take ((0 + l.length) * 1) (List.take (0 * 1) [] ++ l.map iD) = l.map iD := by
  simp only [Nat.zero_mul, List.take_zero, List.nil_append, Nat.zero_add, Nat.mul_one]
  exact List.take_of_length_le (by simp)
theorem takeB (l : List Int) : List.take ((0 + l.length) * 1) (List.drop 0 (List.take (0 * 1) [] ++ l.map iD)) = l.map iD := by
  simp only [Nat.zero_mul, List.take_zero, List.nil_append, Nat.zero_add, Nat.mul_one, List.drop_zero]
  exact List.take_of_length_le (by simp)
theorem takeC (l : List Int) : (List.take (0 * 1) [] ++ l.map iD) = l.map iD := by simp
theorem takeD (n : Nat) (f : Nat → Int) : List.take (n * 1) ((tab n f).map iD) = (tab n f).map iD := by
  rw [List.take_of_length_le (by simp [tab_len])]
theorem joinD (l k : List Int) : List.append (l.map iD) (k.map iD) = (l ++ k).map iD := by rw [List.map_append]; rfl
theorem listD {m : Nat} {l : List Int} (h : l.length = m) : D.list m (l.map iD) = lD l := by subst h; rfl
theorem shiftR_eq (h : Win a b) {n : Int} (h1 : -3 ≤ n) (h2 : n ≤ 3) : m_33 [wnD a b, iD n] = some (wnD (pad a (-n).toNat n.toNat) (pad b n.toNat (-n).toNat)) := by
  have hp := h.pos
  have hle := h.le
  have hlen := h.len
  have hw : IntKind.i64.wrap (0 - n) = -n := by rw [Int.zero_sub]; exact wrapJ _ (by omega) (by omega)
  rw [m_33_eq]
  unfold shiftR_M
  simp only [zerosD, takeA, takeB, takeD, hw, joinD]
  simp only [takeC]
  rw [guardP_pos ⟨cells_int a, Nat.le_refl _, by omega, by omega⟩, guardP_pos (by simp [tab_len]), guardP_pos ⟨cells_int b, Nat.le_refl _, by omega, by omega⟩, guardP_pos (by simp [tab_len])]
  by_cases hn : n ≥ 0
  · rw [if_pos hn, guardP_pos ⟨cells_int _, by simp [tab_len], by omega, by omega⟩, guardP_pos hn, guardP_pos ⟨hn, Int.le_refl _, by omega, by omega⟩, guardP_pos ⟨cells_int b, Nat.le_refl _, by simp [tab_len], by omega, by omega⟩, guardP_pos (by simp [tab_len]), guardP_pos ⟨by simp [tab_len], by omega⟩, guardP_pos ⟨by simp [tab_len], by omega⟩]
    rw [show (-n).toNat = 0 by omega, pad_back, pad_front, listD (by simp [tab_len]), listD (by simp [tab_len])]
  · rw [if_neg hn, guardP_pos ⟨by omega, Int.le_refl _, by omega, by omega⟩, guardP_pos ⟨cells_int a, Nat.le_refl _, by simp [tab_len], by omega, by omega⟩, guardP_pos (by simp [tab_len]), guardP_pos ⟨cells_int _, by simp [tab_len], by omega, by omega⟩, guardP_pos (by omega), guardP_pos ⟨by simp [tab_len], by omega⟩, guardP_pos ⟨by simp [tab_len], by omega⟩]
    rw [show n.toNat = 0 by omega, pad_back, pad_front, listD (by simp [tab_len]), listD (by simp [tab_len])]
end
end Go.Proofs.Ytbfefnfmdkgfjaa
namespace Go.Proofs.Ytbfefnfmdkgfjaa
open Go.Ev Go.RowKit
set_option maxRecDepth 100000
set_option maxHeartbeats 8000000
set_option linter.all false
noncomputable section
def law5_sp : List LSpec := []
def law5_M (ka : Nat) (ca : List D) (kb : Nat) (cb : List D) (n tol : Int) : Option D := pullD (α := Bool) (m_8 []) (fun d => ((D.vb d))) (fun r0 => .one (.bool r0)) fun r0 => ((if r0 = false then some (.one (.bool false)) else pullD (α := Bool) (m_9 [.agg [.list ka ca, .list kb cb]]) (fun d => ((D.vb d))) (fun r1 => .one (.bool r1)) fun r1 => ((if r1 = false then some (.one (.bool true)) else pullD (α := Nat × (List D) × Nat × (List D)) (m_11 [.agg [.list ka ca, .list kb cb]]) (fun d => ((D.ln (D.at d 0)), (D.lc (D.at d 0)), (D.ln (D.at d 1)), (D.lc (D.at d 1)))) (fun (k2, c3, k4, c5) => .agg [.list k2 c3, .list k4 c5]) fun (k2, c3, k4, c5) => (pullD (α := Nat × (List D) × Nat × (List D) × Int) (m_27 [.agg [.list k2 c3, .list k4 c5], iD n]) (fun d => ((D.ln (D.at (D.at d 0) 0)), (D.lc (D.at (D.at d 0) 0)), (D.ln (D.at (D.at d 0) 1)), (D.lc (D.at (D.at d 0) 1)), (D.vi (D.at d 1)))) (fun (k6, c7, k8, c9, r10) => .tup [.agg [.list k6 c7, .list k8 c9], iD r10]) fun (k6, c7, k8, c9, r10) => (pullD (α := Nat × (List D) × Nat × (List D)) (m_11 [.agg [.list ka ca, .list kb cb]]) (fun d => ((D.ln (D.at d 0)), (D.lc (D.at d 0)), (D.ln (D.at d 1)), (D.lc (D.at d 1)))) (fun (k11, c12, k13, c14) => .agg [.list k11 c12, .list k13 c14]) fun (k11, c12, k13, c14) => (pullD (α := Nat × (List D) × Nat × (List D) × Int) (m_28 [.agg [.list k11 c12, .list k13 c14]]) (fun d => ((D.ln (D.at (D.at d 0) 0)), (D.lc (D.at (D.at d 0) 0)), (D.ln (D.at (D.at d 0) 1)), (D.lc (D.at (D.at d 0) 1)), (D.vi (D.at d 1)))) (fun (k15, c16, k17, c18, r19) => .tup [.agg [.list k15 c16, .list k17 c18], iD r19]) fun (k15, c16, k17, c18, r19) => (pullD (α := Nat × (List D) × Nat × (List D)) (m_11 [.agg [.list ka ca, .list kb cb]]) (fun d => ((D.ln (D.at d 0)), (D.lc (D.at d 0)), (D.ln (D.at d 1)), (D.lc (D.at d 1)))) (fun (k20, c21, k22, c23) => .agg [.list k20 c21, .list k22 c23]) fun (k20, c21, k22, c23) => (pullD (α := Int × Int × Int) (m_29 [.agg [.list k20 c21, .list k22 c23], iD tol]) (fun d => ((D.vi (D.at (D.at d 0) 0)), (D.vi (D.at (D.at d 0) 1)), (D.vi (D.at d 1)))) (fun (r24, r25, r26) => .tup [.agg [iD r24, iD r25], iD r26]) fun (r24, r25, r26) => (pullD (α := Int) (m_16 [.agg [.list ka ca, .list kb cb]]) (fun d => ((D.vi d))) (fun r27 => iD r27) fun r27 => ((if r27 ≠ (0 : Int) then (if r10 = r27 then (if r19 = r27 then (if r26 = r27 then pullD (α := Bool) (m_30 [.agg [.list k6 c7, .list k8 c9], .agg [.list 0 [], .list 0 []]]) (fun d => ((D.vb d))) (fun r28 => .one (.bool r28)) fun r28 => ((if (r28) = true then pullD (α := Bool) (m_30 [.agg [.list k15 c16, .list k17 c18], .agg [.list 0 [], .list 0 []]]) (fun d => ((D.vb d))) (fun r29 => .one (.bool r29)) fun r29 => ((if (r29) = true then some (.one (.bool (r24 == (0 : Int) && (r25 == (0 : Int) && true)))) else some (.one (.bool false)))) else some (.one (.bool false)))) else some (.one (.bool false))) else some (.one (.bool false))) else some (.one (.bool false))) else (if r19 ≠ (0 : Int) then some (.one (.bool false)) else pullD (α := Nat × (List D) × Nat × (List D)) (m_31 [.agg [.list ka ca, .list kb cb]]) (fun d => ((D.ln (D.at d 0)), (D.lc (D.at d 0)), (D.ln (D.at d 1)), (D.lc (D.at d 1)))) (fun (k30, c31, k32, c33) => .agg [.list k30 c31, .list k32 c33]) fun (k30, c31, k32, c33) => (pullD (α := Bool) (m_30 [.agg [.list k15 c16, .list k17 c18], .agg [.list k30 c31, .list k32 c33]]) (fun d => ((D.vb d))) (fun r34 => .one (.bool r34)) fun r34 => ((if r34 = false then some (.one (.bool false)) else pullD (α := Int) (m_32 [.agg [.list ka ca, .list kb cb], iD n]) (fun d => ((D.vi d))) (fun r35 => iD r35) fun r35 => ((if r35 ≠ (0 : Int) then (if r10 ≠ r35 then some (.one (.bool false)) else pullD (α := Bool) (m_30 [.agg [.list k6 c7, .list k8 c9], .agg [.list 0 [], .list 0 []]]) (fun d => ((D.vb d))) (fun r36 => .one (.bool r36)) fun r36 => ((if r36 = false then some (.one (.bool false)) else pullD (α := Bool) (m_25 [iD tol, iD (0 : Int), iD (20 : Int)]) (fun d => ((D.vb d))) (fun r37 => .one (.bool r37)) fun r37 => ((if r37 = false then (if r26 = (2 : Int) then some (.one (.bool (r24 == (0 : Int) && (r25 == (0 : Int) && true)))) else some (.one (.bool false))) else (if r26 = (0 : Int) then pullD (α := Int × Int) (m_34 [.agg [.list ka ca, .list kb cb], iD tol]) (fun d => ((D.vi (D.at d 0)), (D.vi (D.at d 1)))) (fun (r38, r39) => .agg [iD r38, iD r39]) fun (r38, r39) => (some (.one (.bool (r24 == r38 && (r25 == r39 && true))))) else some (.one (.bool false)))))))) else (if r10 ≠ (0 : Int) then some (.one (.bool false)) else pullD (α := Nat × (List D) × Nat × (List D)) (m_33 [.agg [.list ka ca, .list kb cb], iD n]) (fun d => ((D.ln (D.at d 0)), (D.lc (D.at d 0)), (D.ln (D.at d 1)), (D.lc (D.at d 1)))) (fun (k40, c41, k42, c43) => .agg [.list k40 c41, .list k42 c43]) fun (k40, c41, k42, c43) => (pullD (α := Bool) (m_30 [.agg [.list k6 c7, .list k8 c9], .agg [.list k40 c41, .list k42 c43]]) (fun d => ((D.vb d))) (fun r44 => .one (.bool r44)) fun r44 => ((if r44 = false then some (.one (.bool false)) else pullD (α := Bool) (m_25 [iD tol, iD (0 : Int), iD (20 : Int)]) (fun d => ((D.vb d))) (fun r45 => .one (.bool r45)) fun r45 => ((if r45 = false then (if r26 = (2 : Int) then some (.one (.bool (r24 == (0 : Int) && (r25 == (0 : Int) && true)))) else some (.one (.bool false))) else (if r26 = (0 : Int) then pullD (α := Int × Int) (m_34 [.agg [.list ka ca, .list kb cb], iD tol]) (fun d => ((D.vi (D.at d 0)), (D.vi (D.at d 1)))) (fun (r46, r47) => .agg [iD r46, iD r47]) fun (r46, r47) => (some (.one (.bool (r24 == r46 && (r25 == r47 && true))))) else some (.one (.bool false)))))))))))))))))))))))))))
theorem law5_M_ok (ka : Nat) (ca : List D) (kb : Nat) (cb : List D) (n tol : Int) {r : D} (h : law5_M ka ca kb cb n tol = some r) : Con 5 [.agg [.list ka ca, .list kb cb], iD n, iD tol] r := by
  unfold law5_M at h
  obtain ⟨r0, f1_, h2_⟩ := pullD_elim h
  replace f1_ := m_8_ok f1_
  by_cases b3_ : r0 = false
  · have h4_ := (if_pos b3_).symm.trans h2_
    obtain rfl := Option.some.inj h4_
    exact con_pc (op := true) (I := [5]) (sp := law5_sp) 3000 (bT 1 []) [.one (.bool r0)] [c_no b3_] [k_c f1_] (by kernel_rfl)
  have h4_ := (if_neg b3_).symm.trans h2_
  have b5_ : r0 = true := by first | exact b3_ | simpa using b3_
  obtain ⟨r1, f6_, h7_⟩ := pullD_elim h4_
  replace f6_ := m_9_ok f6_
  by_cases b8_ : r1 = false
  · have h9_ := (if_pos b8_).symm.trans h7_
    obtain rfl := Option.some.inj h9_
    exact con_pc (op := true) (I := [5]) (sp := law5_sp) 3000 (bF 1 (bT 1 [])) [.one (.bool r0), .one (.bool r1)] [c_nn b5_, c_no b8_] [k_c f1_, k_c f6_] (by kernel_rfl)
  have h9_ := (if_neg b8_).symm.trans h7_
  have b10_ : r1 = true := by first | exact b8_ | simpa using b8_
  obtain ⟨⟨k2, c3, k4, c5⟩, f11_, h12_⟩ := pullD_elim h9_
  replace f11_ := m_11_ok f11_
  obtain ⟨⟨k6, c7, k8, c9, r10⟩, f13_, h14_⟩ := pullD_elim h12_
  replace f13_ := m_27_ok f13_
  obtain ⟨⟨k11, c12, k13, c14⟩, f15_, h16_⟩ := pullD_elim h14_
  replace f15_ := m_11_ok f15_
  obtain ⟨⟨k15, c16, k17, c18, r19⟩, f17_, h18_⟩ := pullD_elim h16_
  replace f17_ := m_28_ok f17_
  obtain ⟨⟨k20, c21, k22, c23⟩, f19_, h20_⟩ := pullD_elim h18_
  replace f19_ := m_11_ok f19_
  obtain ⟨⟨r24, r25, r26⟩, f21_, h22_⟩ := pullD_elim h20_
  replace f21_ := m_29_ok f21_
  obtain ⟨r27, f23_, h24_⟩ := pullD_elim h22_
  replace f23_ := m_16_ok f23_
  by_cases b25_ : r27 ≠ (0 : Int)
  · have h26_ := (if_pos b25_).symm.trans h24_
    by_cases b27_ : r10 = r27
    · have h28_ := (if_pos b27_).symm.trans h26_
      by_cases b29_ : r19 = r27
      · have h30_ := (if_pos b29_).symm.trans h28_
        by_cases b31_ : r26 = r27
        · have h32_ := (if_pos b31_).symm.trans h30_
          obtain ⟨r28, f33_, h34_⟩ := pullD_elim h32_
          replace f33_ := m_30_ok f33_
          by_cases b35_ : (r28) = true
          · have h36_ := (if_pos b35_).symm.trans h34_
            obtain ⟨r29, f37_, h38_⟩ := pullD_elim h36_
            replace f37_ := m_30_ok f37_
            by_cases b39_ : (r29) = true
            · have h40_ := (if_pos b39_).symm.trans h38_
              obtain rfl := Option.some.inj h40_
              exact con_pc (op := true) (I := [5]) (sp := law5_sp) 3000 (bF 2 (bT 21 [])) [.one (.bool r0), .one (.bool r1), .agg [.list k2 c3, .list k4 c5], .tup [.agg [.list k6 c7, .list k8 c9], iD r10], .agg [.list k11 c12, .list k13 c14], .tup [.agg [.list k15 c16, .list k17 c18], iD r19], .agg [.list k20 c21, .list k22 c23], .tup [.agg [iD r24, iD r25], iD r26], iD r27, .one (.bool r28), .one (.bool r29)] [c_nn b5_, c_nn b10_, c_b b25_, c_e b27_, c_e b27_, c_e b27_, c_e b27_, c_e b29_, c_e b29_, c_e b29_, c_e b29_, c_e b31_, c_e b31_, c_e b31_, c_e b31_, c_q b35_, c_q b35_, c_q b35_, c_q b35_, c_q b39_, c_q b39_, c_q b39_, c_q b39_] [k_c f1_, k_c f6_, k_c f11_, k_c f13_, k_c f15_, k_c f17_, k_c f19_, k_c f21_, k_c f23_, k_c f33_, k_c f37_] (by kernel_rfl)
            have h40_ := (if_neg b39_).symm.trans h38_
            have b41_ : (r29) = false := by first | exact b39_ | simpa using b39_
            obtain rfl := Option.some.inj h40_
            exact con_pc (op := true) (I := [5]) (sp := law5_sp) 3000 (bF 2 (bT 17 (bF 4 []))) [.one (.bool r0), .one (.bool r1), .agg [.list k2 c3, .list k4 c5], .tup [.agg [.list k6 c7, .list k8 c9], iD r10], .agg [.list k11 c12, .list k13 c14], .tup [.agg [.list k15 c16, .list k17 c18], iD r19], .agg [.list k20 c21, .list k22 c23], .tup [.agg [iD r24, iD r25], iD r26], iD r27, .one (.bool r28), .one (.bool r29)] [c_nn b5_, c_nn b10_, c_b b25_, c_e b27_, c_e b27_, c_e b27_, c_e b27_, c_e b29_, c_e b29_, c_e b29_, c_e b29_, c_e b31_, c_e b31_, c_e b31_, c_e b31_, c_q b35_, c_q b35_, c_q b35_, c_q b35_, c_q b41_, c_q b41_, c_q b41_, c_q b41_] [k_c f1_, k_c f6_, k_c f11_, k_c f13_, k_c f15_, k_c f17_, k_c f19_, k_c f21_, k_c f23_, k_c f33_, k_c f37_] (by kernel_rfl)
          have h36_ := (if_neg b35_).symm.trans h34_
          have b42_ : (r28) = false := by first | exact b35_ | simpa using b35_
          obtain rfl := Option.some.inj h36_
          exact con_pc (op := true) (I := [5]) (sp := law5_sp) 3000 (bF 2 (bT 13 (bF 8 []))) [.one (.bool r0), .one (.bool r1), .agg [.list k2 c3, .list k4 c5], .tup [.agg [.list k6 c7, .list k8 c9], iD r10], .agg [.list k11 c12, .list k13 c14], .tup [.agg [.list k15 c16, .list k17 c18], iD r19], .agg [.list k20 c21, .list k22 c23], .tup [.agg [iD r24, iD r25], iD r26], iD r27, .one (.bool r28)] [c_nn b5_, c_nn b10_, c_b b25_, c_e b27_, c_e b27_, c_e b27_, c_e b27_, c_e b29_, c_e b29_, c_e b29_, c_e b29_, c_e b31_, c_e b31_, c_e b31_, c_e b31_, c_q b42_, c_q b42_, c_q b42_, c_q b42_, c_F, c_F, c_F, c_F] [k_c f1_, k_c f6_, k_c f11_, k_c f13_, k_c f15_, k_c f17_, k_c f19_, k_c f21_, k_c f23_, k_c f33_] (by kernel_rfl)
        have h32_ := (if_neg b31_).symm.trans h30_
        have b43_ : r26 ≠ r27 := by first | exact b31_ | simpa using b31_
        obtain rfl := Option.some.inj h32_
        exact con_pc (op := true) (I := [5]) (sp := law5_sp) 3000 (bF 2 (bT 9 (bF 12 []))) [.one (.bool r0), .one (.bool r1), .agg [.list k2 c3, .list k4 c5], .tup [.agg [.list k6 c7, .list k8 c9], iD r10], .agg [.list k11 c12, .list k13 c14], .tup [.agg [.list k15 c16, .list k17 c18], iD r19], .agg [.list k20 c21, .list k22 c23], .tup [.agg [iD r24, iD r25], iD r26], iD r27] [c_nn b5_, c_nn b10_, c_b b25_, c_e b27_, c_e b27_, c_e b27_, c_e b27_, c_e b29_, c_e b29_, c_e b29_, c_e b29_, c_en b43_, c_en b43_, c_en b43_, c_en b43_, c_F, c_F, c_F, c_F, c_F, c_F, c_F, c_F] [k_c f1_, k_c f6_, k_c f11_, k_c f13_, k_c f15_, k_c f17_, k_c f19_, k_c f21_, k_c f23_] (by kernel_rfl)
      have h30_ := (if_neg b29_).symm.trans h28_
      have b44_ : r19 ≠ r27 := by first | exact b29_ | simpa using b29_
      obtain rfl := Option.some.inj h30_
      exact con_pc (op := true) (I := [5]) (sp := law5_sp) 3000 (bF 2 (bT 5 (bF 16 []))) [.one (.bool r0), .one (.bool r1), .agg [.list k2 c3, .list k4 c5], .tup [.agg [.list k6 c7, .list k8 c9], iD r10], .agg [.list k11 c12, .list k13 c14], .tup [.agg [.list k15 c16, .list k17 c18], iD r19], .agg [.list k20 c21, .list k22 c23], .tup [.agg [iD r24, iD r25], iD r26], iD r27] [c_nn b5_, c_nn b10_, c_b b25_, c_e b27_, c_e b27_, c_e b27_, c_e b27_, c_en b44_, c_en b44_, c_en b44_, c_en b44_, c_F, c_F, c_F, c_F, c_F, c_F, c_F, c_F, c_F, c_F, c_F, c_F] [k_c f1_, k_c f6_, k_c f11_, k_c f13_, k_c f15_, k_c f17_, k_c f19_, k_c f21_, k_c f23_] (by kernel_rfl)
    have h28_ := (if_neg b27_).symm.trans h26_
    have b45_ : r10 ≠ r27 := by first | exact b27_ | simpa using b27_
    obtain rfl := Option.some.inj h28_
    exact con_pc (op := true) (I := [5]) (sp := law5_sp) 3000 (bF 2 (bT 1 (bF 20 []))) [.one (.bool r0), .one (.bool r1), .agg [.list k2 c3, .list k4 c5], .tup [.agg [.list k6 c7, .list k8 c9], iD r10], .agg [.list k11 c12, .list k13 c14], .tup [.agg [.list k15 c16, .list k17 c18], iD r19], .agg [.list k20 c21, .list k22 c23], .tup [.agg [iD r24, iD r25], iD r26], iD r27] [c_nn b5_, c_nn b10_, c_b b25_, c_en b45_, c_en b45_, c_en b45_, c_en b45_, c_F, c_F, c_F, c_F, c_F, c_F, c_F, c_F, c_F, c_F, c_F, c_F, c_F, c_F, c_F, c_F] [k_c f1_, k_c f6_, k_c f11_, k_c f13_, k_c f15_, k_c f17_, k_c f19_, k_c f21_, k_c f23_] (by kernel_rfl)
  have h26_ := (if_neg b25_).symm.trans h24_
  have b46_ : r27 = (0 : Int) := by first | exact b25_ | simpa using b25_
  by_cases b47_ : r19 ≠ (0 : Int)
  · have h48_ := (if_pos b47_).symm.trans h26_
    obtain rfl := Option.some.inj h48_
    exact con_pc (op := true) (I := [5]) (sp := law5_sp) 3000 (bF 3 (bT 7 [])) [.one (.bool r0), .one (.bool r1), .agg [.list k2 c3, .list k4 c5], .tup [.agg [.list k6 c7, .list k8 c9], iD r10], .agg [.list k11 c12, .list k13 c14], .tup [.agg [.list k15 c16, .list k17 c18], iD r19], .agg [.list k20 c21, .list k22 c23], .tup [.agg [iD r24, iD r25], iD r26], iD r27] [c_nn b5_, c_nn b10_, c_bn b46_, c_b b47_, c_b b47_, c_b b47_, c_b b47_, c_b b47_, c_b b47_, c_T] [k_c f1_, k_c f6_, k_c f11_, k_c f13_, k_c f15_, k_c f17_, k_c f19_, k_c f21_, k_c f23_] (by kernel_rfl)
  have h48_ := (if_neg b47_).symm.trans h26_
  have b49_ : r19 = (0 : Int) := by first | exact b47_ | simpa using b47_
  obtain ⟨⟨k30, c31, k32, c33⟩, f50_, h51_⟩ := pullD_elim h48_
  replace f50_ := m_31_ok f50_
  obtain ⟨r34, f52_, h53_⟩ := pullD_elim h51_
  replace f52_ := m_30_ok f52_
  by_cases b54_ : r34 = false
  · have h55_ := (if_pos b54_).symm.trans h53_
    obtain rfl := Option.some.inj h55_
    exact con_pc (op := true) (I := [5]) (sp := law5_sp) 3000 (bF 9 (bT 1 [])) [.one (.bool r0), .one (.bool r1), .agg [.list k2 c3, .list k4 c5], .tup [.agg [.list k6 c7, .list k8 c9], iD r10], .agg [.list k11 c12, .list k13 c14], .tup [.agg [.list k15 c16, .list k17 c18], iD r19], .agg [.list k20 c21, .list k22 c23], .tup [.agg [iD r24, iD r25], iD r26], iD r27, .agg [.list k30 c31, .list k32 c33], .one (.bool r34)] [c_nn b5_, c_nn b10_, c_bn b46_, c_bn b49_, c_bn b49_, c_bn b49_, c_bn b49_, c_bn b49_, c_bn b49_, c_no b54_] [k_c f1_, k_c f6_, k_c f11_, k_c f13_, k_c f15_, k_c f17_, k_c f19_, k_c f21_, k_c f23_, k_c f50_, k_c f52_] (by kernel_rfl)
  have h55_ := (if_neg b54_).symm.trans h53_
  have b56_ : r34 = true := by first | exact b54_ | simpa using b54_
  obtain ⟨r35, f57_, h58_⟩ := pullD_elim h55_
  replace f57_ := m_32_ok f57_
  by_cases b59_ : r35 ≠ (0 : Int)
  · have h60_ := (if_pos b59_).symm.trans h58_
    by_cases b61_ : r10 ≠ r35
    · have h62_ := (if_pos b61_).symm.trans h60_
      obtain rfl := Option.some.inj h62_
      exact con_pc (op := true) (I := [5]) (sp := law5_sp) 3000 (bF 10 (bT 17 [])) [.one (.bool r0), .one (.bool r1), .agg [.list k2 c3, .list k4 c5], .tup [.agg [.list k6 c7, .list k8 c9], iD r10], .agg [.list k11 c12, .list k13 c14], .tup [.agg [.list k15 c16, .list k17 c18], iD r19], .agg [.list k20 c21, .list k22 c23], .tup [.agg [iD r24, iD r25], iD r26], iD r27, .agg [.list k30 c31, .list k32 c33], .one (.bool r34), iD r35] [c_nn b5_, c_nn b10_, c_bn b46_, c_bn b49_, c_bn b49_, c_bn b49_, c_bn b49_, c_bn b49_, c_bn b49_, c_nn b56_, c_b b59_, c_b b59_, c_b b59_, c_b b59_, c_b b61_, c_b b61_, c_b b61_, c_b b61_, c_b b59_, c_b b61_, c_b b59_, c_T, c_T, c_T, c_T, c_T, c_T] [k_c f1_, k_c f6_, k_c f11_, k_c f13_, k_c f15_, k_c f17_, k_c f19_, k_c f21_, k_c f23_, k_c f50_, k_c f52_, k_c f57_] (by kernel_rfl)
    have h62_ := (if_neg b61_).symm.trans h60_
    have b63_ : r10 = r35 := by first | exact b61_ | simpa using b61_
    obtain ⟨r36, f64_, h65_⟩ := pullD_elim h62_
    replace f64_ := m_30_ok f64_
    by_cases b66_ : r36 = false
    · have h67_ := (if_pos b66_).symm.trans h65_
      obtain rfl := Option.some.inj h67_
      exact con_pc (op := true) (I := [5]) (sp := law5_sp) 3000 (bF 10 (bT 4 (bF 4 (bT 1 (bF 1 (bT 7 [])))))) [.one (.bool r0), .one (.bool r1), .agg [.list k2 c3, .list k4 c5], .tup [.agg [.list k6 c7, .list k8 c9], iD r10], .agg [.list k11 c12, .list k13 c14], .tup [.agg [.list k15 c16, .list k17 c18], iD r19], .agg [.list k20 c21, .list k22 c23], .tup [.agg [iD r24, iD r25], iD r26], iD r27, .agg [.list k30 c31, .list k32 c33], .one (.bool r34), iD r35, .one (.bool r36)] [c_nn b5_, c_nn b10_, c_bn b46_, c_bn b49_, c_bn b49_, c_bn b49_, c_bn b49_, c_bn b49_, c_bn b49_, c_nn b56_, c_b b59_, c_b b59_, c_b b59_, c_b b59_, c_bn b63_, c_bn b63_, c_bn b63_, c_bn b63_, c_b b59_, c_bn b63_, c_b b59_, c_no b66_, c_no b66_, c_no b66_, c_no b66_, c_no b66_, c_T] [k_c f1_, k_c f6_, k_c f11_, k_c f13_, k_c f15_, k_c f17_, k_c f19_, k_c f21_, k_c f23_, k_c f50_, k_c f52_, k_c f57_, k_c f64_] (by kernel_rfl)
    have h67_ := (if_neg b66_).symm.trans h65_
    have b68_ : r36 = true := by first | exact b66_ | simpa using b66_
    obtain ⟨r37, f69_, h70_⟩ := pullD_elim h67_
    replace f69_ := m_25_ok f69_
    by_cases b71_ : r37 = false
    · have h72_ := (if_pos b71_).symm.trans h70_
      by_cases b73_ : r26 = (2 : Int)
      · have h74_ := (if_pos b73_).symm.trans h72_
        obtain rfl := Option.some.inj h74_
        exact con_pc (op := true) (I := [5]) (sp := law5_sp) 3000 (bF 10 (bT 4 (bF 4 (bT 1 (bF 1 (bT 1 (bF 11 (bT 5 [])))))))) [.one (.bool r0), .one (.bool r1), .agg [.list k2 c3, .list k4 c5], .tup [.agg [.list k6 c7, .list k8 c9], iD r10], .agg [.list k11 c12, .list k13 c14], .tup [.agg [.list k15 c16, .list k17 c18], iD r19], .agg [.list k20 c21, .list k22 c23], .tup [.agg [iD r24, iD r25], iD r26], iD r27, .agg [.list k30 c31, .list k32 c33], .one (.bool r34), iD r35, .one (.bool r36), .one (.bool r37)] [c_nn b5_, c_nn b10_, c_bn b46_, c_bn b49_, c_bn b49_, c_bn b49_, c_bn b49_, c_bn b49_, c_bn b49_, c_nn b56_, c_b b59_, c_b b59_, c_b b59_, c_b b59_, c_bn b63_, c_bn b63_, c_bn b63_, c_bn b63_, c_b b59_, c_bn b63_, c_b b59_, c_nn b68_, c_nn b68_, c_nn b68_, c_en b59_, c_en b59_, c_en b59_, c_en b59_, c_nn b68_, c_en b59_, c_nn b68_, c_F, c_no b71_, c_e b73_, c_e b73_, c_e b73_, c_e b73_] [k_c f1_, k_c f6_, k_c f11_, k_c f13_, k_c f15_, k_c f17_, k_c f19_, k_c f21_, k_c f23_, k_c f50_, k_c f52_, k_c f57_, k_c f64_, k_c f69_] (by kernel_rfl)
      have h74_ := (if_neg b73_).symm.trans h72_
      have b75_ : r26 ≠ (2 : Int) := by first | exact b73_ | simpa using b73_
      obtain rfl := Option.some.inj h74_
      exact con_pc (op := true) (I := [5]) (sp := law5_sp) 3000 (bF 10 (bT 4 (bF 4 (bT 1 (bF 1 (bT 1 (bF 11 (bT 1 (bF 4 []))))))))) [.one (.bool r0), .one (.bool r1), .agg [.list k2 c3, .list k4 c5], .tup [.agg [.list k6 c7, .list k8 c9], iD r10], .agg [.list k11 c12, .list k13 c14], .tup [.agg [.list k15 c16, .list k17 c18], iD r19], .agg [.list k20 c21, .list k22 c23], .tup [.agg [iD r24, iD r25], iD r26], iD r27, .agg [.list k30 c31, .list k32 c33], .one (.bool r34), iD r35, .one (.bool r36), .one (.bool r37)] [c_nn b5_, c_nn b10_, c_bn b46_, c_bn b49_, c_bn b49_, c_bn b49_, c_bn b49_, c_bn b49_, c_bn b49_, c_nn b56_, c_b b59_, c_b b59_, c_b b59_, c_b b59_, c_bn b63_, c_bn b63_, c_bn b63_, c_bn b63_, c_b b59_, c_bn b63_, c_b b59_, c_nn b68_, c_nn b68_, c_nn b68_, c_en b59_, c_en b59_, c_en b59_, c_en b59_, c_nn b68_, c_en b59_, c_nn b68_, c_F, c_no b71_, c_en b75_, c_en b75_, c_en b75_, c_en b75_] [k_c f1_, k_c f6_, k_c f11_, k_c f13_, k_c f15_, k_c f17_, k_c f19_, k_c f21_, k_c f23_, k_c f50_, k_c f52_, k_c f57_, k_c f64_, k_c f69_] (by kernel_rfl)
    have h72_ := (if_neg b71_).symm.trans h70_
    have b76_ : r37 = true := by first | exact b71_ | simpa using b71_
    by_cases b77_ : r26 = (0 : Int)
    · have h78_ := (if_pos b77_).symm.trans h72_
      obtain ⟨⟨r38, r39⟩, f79_, h80_⟩ := pullD_elim h78_
      replace f79_ := m_34_ok f79_
      obtain rfl := Option.some.inj h80_
      exact con_pc (op := true) (I := [5]) (sp := law5_sp) 3000 (bF 10 (bT 4 (bF 4 (bT 1 (bF 1 (bT 1 (bF 12 (bT 6 [])))))))) [.one (.bool r0), .one (.bool r1), .agg [.list k2 c3, .list k4 c5], .tup [.agg [.list k6 c7, .list k8 c9], iD r10], .agg [.list k11 c12, .list k13 c14], .tup [.agg [.list k15 c16, .list k17 c18], iD r19], .agg [.list k20 c21, .list k22 c23], .tup [.agg [iD r24, iD r25], iD r26], iD r27, .agg [.list k30 c31, .list k32 c33], .one (.bool r34), iD r35, .one (.bool r36), .one (.bool r37), .agg [iD r38, iD r39]] [c_nn b5_, c_nn b10_, c_bn b46_, c_bn b49_, c_bn b49_, c_bn b49_, c_bn b49_, c_bn b49_, c_bn b49_, c_nn b56_, c_b b59_, c_b b59_, c_b b59_, c_b b59_, c_bn b63_, c_bn b63_, c_bn b63_, c_bn b63_, c_b b59_, c_bn b63_, c_b b59_, c_nn b68_, c_nn b68_, c_nn b68_, c_en b59_, c_en b59_, c_en b59_, c_en b59_, c_nn b68_, c_en b59_, c_nn b68_, c_F, c_nn b76_, c_e b77_, c_e b77_, c_e b77_, c_e b77_, c_e b77_, c_e b77_] [k_c f1_, k_c f6_, k_c f11_, k_c f13_, k_c f15_, k_c f17_, k_c f19_, k_c f21_, k_c f23_, k_c f50_, k_c f52_, k_c f57_, k_c f64_, k_c f69_, k_c f79_] (by kernel_rfl)
    have h78_ := (if_neg b77_).symm.trans h72_
    have b81_ : r26 ≠ (0 : Int) := by first | exact b77_ | simpa using b77_
    obtain rfl := Option.some.inj h78_
    exact con_pc (op := true) (I := [5]) (sp := law5_sp) 3000 (bF 10 (bT 4 (bF 4 (bT 1 (bF 1 (bT 1 (bF 18 []))))))) [.one (.bool r0), .one (.bool r1), .agg [.list k2 c3, .list k4 c5], .tup [.agg [.list k6 c7, .list k8 c9], iD r10], .agg [.list k11 c12, .list k13 c14], .tup [.agg [.list k15 c16, .list k17 c18], iD r19], .agg [.list k20 c21, .list k22 c23], .tup [.agg [iD r24, iD r25], iD r26], iD r27, .agg [.list k30 c31, .list k32 c33], .one (.bool r34), iD r35, .one (.bool r36), .one (.bool r37)] [c_nn b5_, c_nn b10_, c_bn b46_, c_bn b49_, c_bn b49_, c_bn b49_, c_bn b49_, c_bn b49_, c_bn b49_, c_nn b56_, c_b b59_, c_b b59_, c_b b59_, c_b b59_, c_bn b63_, c_bn b63_, c_bn b63_, c_bn b63_, c_b b59_, c_bn b63_, c_b b59_, c_nn b68_, c_nn b68_, c_nn b68_, c_en b59_, c_en b59_, c_en b59_, c_en b59_, c_nn b68_, c_en b59_, c_nn b68_, c_F, c_nn b76_, c_en b81_, c_en b81_, c_en b81_, c_en b81_, c_en b81_, c_en b81_] [k_c f1_, k_c f6_, k_c f11_, k_c f13_, k_c f15_, k_c f17_, k_c f19_, k_c f21_, k_c f23_, k_c f50_, k_c f52_, k_c f57_, k_c f64_, k_c f69_] (by kernel_rfl)
  have h60_ := (if_neg b59_).symm.trans h58_
  have b82_ : r35 = (0 : Int) := by first | exact b59_ | simpa using b59_
  by_cases b83_ : r10 ≠ (0 : Int)
  · have h84_ := (if_pos b83_).symm.trans h60_
    obtain rfl := Option.some.inj h84_
    exact con_pc (op := true) (I := [5]) (sp := law5_sp) 3000 (bF 19 (bT 11 (bF 1 (bT 1 (bF 1 (bT 1 [])))))) [.one (.bool r0), .one (.bool r1), .agg [.list k2 c3, .list k4 c5], .tup [.agg [.list k6 c7, .list k8 c9], iD r10], .agg [.list k11 c12, .list k13 c14], .tup [.agg [.list k15 c16, .list k17 c18], iD r19], .agg [.list k20 c21, .list k22 c23], .tup [.agg [iD r24, iD r25], iD r26], iD r27, .agg [.list k30 c31, .list k32 c33], .one (.bool r34), iD r35] [c_nn b5_, c_nn b10_, c_bn b46_, c_bn b49_, c_bn b49_, c_bn b49_, c_bn b49_, c_bn b49_, c_bn b49_, c_nn b56_, c_bn b82_, c_bn b82_, c_bn b82_, c_bn b82_, c_bn b82_, c_bn b82_, c_F, c_F, c_F, c_e b82_, c_e b82_, c_e b82_, c_b b83_, c_b b83_, c_b b83_, c_b b83_, c_b b83_, c_b b83_, c_e b82_, c_b b83_, c_F, c_e b82_, c_F, c_T] [k_c f1_, k_c f6_, k_c f11_, k_c f13_, k_c f15_, k_c f17_, k_c f19_, k_c f21_, k_c f23_, k_c f50_, k_c f52_, k_c f57_] (by kernel_rfl)
  have h84_ := (if_neg b83_).symm.trans h60_
  have b85_ : r10 = (0 : Int) := by first | exact b83_ | simpa using b83_
  obtain ⟨⟨k40, c41, k42, c43⟩, f86_, h87_⟩ := pullD_elim h84_
  replace f86_ := m_33_ok f86_
  obtain ⟨r44, f88_, h89_⟩ := pullD_elim h87_
  replace f88_ := m_30_ok f88_
  by_cases b90_ : r44 = false
  · have h91_ := (if_pos b90_).symm.trans h89_
    obtain rfl := Option.some.inj h91_
    exact con_pc (op := true) (I := [5]) (sp := law5_sp) 3000 (bF 19 (bT 3 (bF 6 (bT 1 (bF 2 (bT 1 (bF 1 (bT 1 [])))))))) [.one (.bool r0), .one (.bool r1), .agg [.list k2 c3, .list k4 c5], .tup [.agg [.list k6 c7, .list k8 c9], iD r10], .agg [.list k11 c12, .list k13 c14], .tup [.agg [.list k15 c16, .list k17 c18], iD r19], .agg [.list k20 c21, .list k22 c23], .tup [.agg [iD r24, iD r25], iD r26], iD r27, .agg [.list k30 c31, .list k32 c33], .one (.bool r34), iD r35, .agg [.list k40 c41, .list k42 c43], .one (.bool r44)] [c_nn b5_, c_nn b10_, c_bn b46_, c_bn b49_, c_bn b49_, c_bn b49_, c_bn b49_, c_bn b49_, c_bn b49_, c_nn b56_, c_bn b82_, c_bn b82_, c_bn b82_, c_bn b82_, c_bn b82_, c_bn b82_, c_F, c_F, c_F, c_e b82_, c_e b82_, c_e b82_, c_bn b85_, c_bn b85_, c_bn b85_, c_bn b85_, c_bn b85_, c_bn b85_, c_e b82_, c_bn b85_, c_F, c_e b82_, c_F, c_no b90_] [k_c f1_, k_c f6_, k_c f11_, k_c f13_, k_c f15_, k_c f17_, k_c f19_, k_c f21_, k_c f23_, k_c f50_, k_c f52_, k_c f57_, k_c f86_, k_c f88_] (by kernel_rfl)
  have h91_ := (if_neg b90_).symm.trans h89_
  have b92_ : r44 = true := by first | exact b90_ | simpa using b90_
  obtain ⟨r45, f93_, h94_⟩ := pullD_elim h91_
  replace f93_ := m_25_ok f93_
  by_cases b95_ : r45 = false
  · have h96_ := (if_pos b95_).symm.trans h94_
    by_cases b97_ : r26 = (2 : Int)
    · have h98_ := (if_pos b97_).symm.trans h96_
      obtain rfl := Option.some.inj h98_
      exact con_pc (op := true) (I := [5]) (sp := law5_sp) 3000 (bF 19 (bT 3 (bF 6 (bT 1 (bF 2 (bT 1 (bF 2 (bT 5 [])))))))) [.one (.bool r0), .one (.bool r1), .agg [.list k2 c3, .list k4 c5], .tup [.agg [.list k6 c7, .list k8 c9], iD r10], .agg [.list k11 c12, .list k13 c14], .tup [.agg [.list k15 c16, .list k17 c18], iD r19], .agg [.list k20 c21, .list k22 c23], .tup [.agg [iD r24, iD r25], iD r26], iD r27, .agg [.list k30 c31, .list k32 c33], .one (.bool r34), iD r35, .agg [.list k40 c41, .list k42 c43], .one (.bool r44), .one (.bool r45)] [c_nn b5_, c_nn b10_, c_bn b46_, c_bn b49_, c_bn b49_, c_bn b49_, c_bn b49_, c_bn b49_, c_bn b49_, c_nn b56_, c_bn b82_, c_bn b82_, c_bn b82_, c_bn b82_, c_bn b82_, c_bn b82_, c_F, c_F, c_F, c_e b82_, c_e b82_, c_e b82_, c_bn b85_, c_bn b85_, c_bn b85_, c_bn b85_, c_bn b85_, c_bn b85_, c_e b82_, c_bn b85_, c_F, c_e b82_, c_F, c_nn b92_, c_no b95_, c_e b97_, c_e b97_, c_e b97_, c_e b97_] [k_c f1_, k_c f6_, k_c f11_, k_c f13_, k_c f15_, k_c f17_, k_c f19_, k_c f21_, k_c f23_, k_c f50_, k_c f52_, k_c f57_, k_c f86_, k_c f88_, k_c f93_] (by kernel_rfl)
    have h98_ := (if_neg b97_).symm.trans h96_
    have b99_ : r26 ≠ (2 : Int) := by first | exact b97_ | simpa using b97_
    obtain rfl := Option.some.inj h98_
    exact con_pc (op := true) (I := [5]) (sp := law5_sp) 3000 (bF 19 (bT 3 (bF 6 (bT 1 (bF 2 (bT 1 (bF 2 (bT 1 (bF 4 []))))))))) [.one (.bool r0), .one (.bool r1), .agg [.list k2 c3, .list k4 c5], .tup [.agg [.list k6 c7, .list k8 c9], iD r10], .agg [.list k11 c12, .list k13 c14], .tup [.agg [.list k15 c16, .list k17 c18], iD r19], .agg [.list k20 c21, .list k22 c23], .tup [.agg [iD r24, iD r25], iD r26], iD r27, .agg [.list k30 c31, .list k32 c33], .one (.bool r34), iD r35, .agg [.list k40 c41, .list k42 c43], .one (.bool r44), .one (.bool r45)] [c_nn b5_, c_nn b10_, c_bn b46_, c_bn b49_, c_bn b49_, c_bn b49_, c_bn b49_, c_bn b49_, c_bn b49_, c_nn b56_, c_bn b82_, c_bn b82_, c_bn b82_, c_bn b82_, c_bn b82_, c_bn b82_, c_F, c_F, c_F, c_e b82_, c_e b82_, c_e b82_, c_bn b85_, c_bn b85_, c_bn b85_, c_bn b85_, c_bn b85_, c_bn b85_, c_e b82_, c_bn b85_, c_F, c_e b82_, c_F, c_nn b92_, c_no b95_, c_en b99_, c_en b99_, c_en b99_, c_en b99_] [k_c f1_, k_c f6_, k_c f11_, k_c f13_, k_c f15_, k_c f17_, k_c f19_, k_c f21_, k_c f23_, k_c f50_, k_c f52_, k_c f57_, k_c f86_, k_c f88_, k_c f93_] (by kernel_rfl)
  have h96_ := (if_neg b95_).symm.trans h94_
  have b100_ : r45 = true := by first | exact b95_ | simpa using b95_
  by_cases b101_ : r26 = (0 : Int)
  · have h102_ := (if_pos b101_).symm.trans h96_
    obtain ⟨⟨r46, r47⟩, f103_, h104_⟩ := pullD_elim h102_
    replace f103_ := m_34_ok f103_
    obtain rfl := Option.some.inj h104_
    exact con_pc (op := true) (I := [5]) (sp := law5_sp) 3000 (bF 19 (bT 3 (bF 6 (bT 1 (bF 2 (bT 1 (bF 3 (bT 6 [])))))))) [.one (.bool r0), .one (.bool r1), .agg [.list k2 c3, .list k4 c5], .tup [.agg [.list k6 c7, .list k8 c9], iD r10], .agg [.list k11 c12, .list k13 c14], .tup [.agg [.list k15 c16, .list k17 c18], iD r19], .agg [.list k20 c21, .list k22 c23], .tup [.agg [iD r24, iD r25], iD r26], iD r27, .agg [.list k30 c31, .list k32 c33], .one (.bool r34), iD r35, .agg [.list k40 c41, .list k42 c43], .one (.bool r44), .one (.bool r45), .agg [iD r46, iD r47]] [c_nn b5_, c_nn b10_, c_bn b46_, c_bn b49_, c_bn b49_, c_bn b49_, c_bn b49_, c_bn b49_, c_bn b49_, c_nn b56_, c_bn b82_, c_bn b82_, c_bn b82_, c_bn b82_, c_bn b82_, c_bn b82_, c_F, c_F, c_F, c_e b82_, c_e b82_, c_e b82_, c_bn b85_, c_bn b85_, c_bn b85_, c_bn b85_, c_bn b85_, c_bn b85_, c_e b82_, c_bn b85_, c_F, c_e b82_, c_F, c_nn b92_, c_nn b100_, c_e b101_, c_e b101_, c_e b101_, c_e b101_, c_e b101_, c_e b101_] [k_c f1_, k_c f6_, k_c f11_, k_c f13_, k_c f15_, k_c f17_, k_c f19_, k_c f21_, k_c f23_, k_c f50_, k_c f52_, k_c f57_, k_c f86_, k_c f88_, k_c f93_, k_c f103_] (by kernel_rfl)
  have h102_ := (if_neg b101_).symm.trans h96_
  have b105_ : r26 ≠ (0 : Int) := by first | exact b101_ | simpa using b101_
  obtain rfl := Option.some.inj h102_
  exact con_pc (op := true) (I := [5]) (sp := law5_sp) 3000 (bF 19 (bT 3 (bF 6 (bT 1 (bF 2 (bT 1 (bF 9 []))))))) [.one (.bool r0), .one (.bool r1), .agg [.list k2 c3, .list k4 c5], .tup [.agg [.list k6 c7, .list k8 c9], iD r10], .agg [.list k11 c12, .list k13 c14], .tup [.agg [.list k15 c16, .list k17 c18], iD r19], .agg [.list k20 c21, .list k22 c23], .tup [.agg [iD r24, iD r25], iD r26], iD r27, .agg [.list k30 c31, .list k32 c33], .one (.bool r34), iD r35, .agg [.list k40 c41, .list k42 c43], .one (.bool r44), .one (.bool r45)] [c_nn b5_, c_nn b10_, c_bn b46_, c_bn b49_, c_bn b49_, c_bn b49_, c_bn b49_, c_bn b49_, c_bn b49_, c_nn b56_, c_bn b82_, c_bn b82_, c_bn b82_, c_bn b82_, c_bn b82_, c_bn b82_, c_F, c_F, c_F, c_e b82_, c_e b82_, c_e b82_, c_bn b85_, c_bn b85_, c_bn b85_, c_bn b85_, c_bn b85_, c_bn b85_, c_e b82_, c_bn b85_, c_F, c_e b82_, c_F, c_nn b92_, c_nn b100_, c_en b105_, c_en b105_, c_en b105_, c_en b105_, c_en b105_, c_en b105_] [k_c f1_, k_c f6_, k_c f11_, k_c f13_, k_c f15_, k_c f17_, k_c f19_, k_c f21_, k_c f23_, k_c f50_, k_c f52_, k_c f57_, k_c f86_, k_c f88_, k_c f93_] (by kernel_rfl)
def m_5 (ds : List D) : Option D := pullD (α := Nat × (List D) × Nat × (List D) × Int × Int) (some (.tup ds)) (fun d => ((D.ln (D.at (D.at d 0) 0)), (D.lc (D.at (D.at d 0) 0)), (D.ln (D.at (D.at d 0) 1)), (D.lc (D.at (D.at d 0) 1)), (D.vi (D.at d 1)), (D.vi (D.at d 2)))) (fun (ka, ca, kb, cb, n, tol) => .tup [.agg [.list ka ca, .list kb cb], iD n, iD tol]) fun (ka, ca, kb, cb, n, tol) => law5_M ka ca kb cb n tol
theorem m_5_ok {ds : List D} {r : D} (h : m_5 ds = some r) : Con 5 ds r := by
  unfold m_5 at h
  obtain ⟨⟨ka, ca, kb, cb, n, tol⟩, e0, h0⟩ := pullD_elim h
  obtain rfl := tup_inj e0
  exact law5_M_ok ka ca kb cb n tol h0
theorem m_5_eq (ka : Nat) (ca : List D) (kb : Nat) (cb : List D) (n tol : Int) : m_5 [.agg [.list ka ca, .list kb cb], iD n, iD tol] = law5_M ka ca kb cb n tol := pullD_some (ka, ca, kb, cb, n, tol) rfl rfl
end
end Go.Proofs.Ytbfefnfmdkgfjaa
/- ForceOthers: the law. -/
namespace Go.Proofs.Ytbfefnfmdkgfjaa
open Go.Ev Go.RowKit
set_option maxRecDepth 100000
section
variable {a b : List Int}
theorem wrap3 : IntKind.i64.wrap (0 - 3) = -3 := wrapJ (0 - 3) (by decide) (by decide)
theorem pullX {β : Type} (x y : List Int) (e : Int) (k : Nat × List D × Nat × List D × Int → Option β) : pullD (some (.tup [wnD x y, iD e])) (fun d => (D.ln (D.at (D.at d 0) 0), D.lc (D.at (D.at d 0) 0), D.ln (D.at (D.at d 0) 1), D.lc (D.at (D.at d 0) 1), D.vi (D.at d 1))) (fun (p, q, r, s, z) => .tup [.agg [.list p q, .list r s], iD z]) k = k (x.length, x.map iD, y.length, y.map iD, e) := pullD_some (x.length, x.map iD, y.length, y.map iD, e) rfl rfl
theorem pullZ {β : Type} (x y : List Int) (k : Nat × List D × Nat × List D → Option β) : pullD (some (wnD x y)) (fun d => (D.ln (D.at d 0), D.lc (D.at d 0), D.ln (D.at d 1), D.lc (D.at d 1))) (fun (p, q, r, s) => .agg [.list p q, .list r s]) k = k (x.length, x.map iD, y.length, y.map iD) := pullD_some (x.length, x.map iD, y.length, y.map iD) rfl rfl
theorem pullU {β : Type} (p q e : Int) (k : Int × Int × Int → Option β) : pullD (some (.tup [.agg [iD p, iD q], iD e])) (fun d => (D.vi (D.at (D.at d 0) 0), D.vi (D.at (D.at d 0) 1), D.vi (D.at d 1))) (fun (x, y, z) => .tup [.agg [iD x, iD y], iD z]) k = k (p, q, e) := pullD_some (p, q, e) rfl rfl
theorem pullQ {β : Type} (p q : Int) (k : Int × Int → Option β) : pullD (some (.agg [iD p, iD q])) (fun d => (D.vi (D.at d 0), D.vi (D.at d 1))) (fun (x, y) => .agg [iD x, iD y]) k = k (p, q) := pullD_some (p, q) rfl rfl
theorem shiftErr_is (a b : List Int) (n : Int) (hl : a.length ≤ 1000) : m_32 [wnD a b, iD n] = some (iD (if ¬ (-3 ≤ n ∧ n ≤ 3) then 2 else if (-n).toNat + a.length + n.toNat > 15 then 8 else 0)) := by
  rw [m_32_eq]
  unfold shiftErr_M
  rw [within_eq, pullB]
  by_cases h : -3 ≤ n ∧ n ≤ 3
  rotate_left
  · rw [if_pos (by simpa using h), if_pos h]
  rw [if_neg (by simpa using h), if_neg (by omega), sizeB (by omega) (by omega), pullI]
  have e1 : max n (-n) = ((-n).toNat : Int) + (n.toNat : Int) := by omega
  rw [e1, wrapJ _ (by omega) (by omega)]
  by_cases h2 : (-n).toNat + a.length + n.toNat > 15
  · rw [if_pos (by omega), if_pos h2]
  · rw [if_neg (by omega), if_neg h2]
theorem s27 (a b : List Int) (n : Int) (hla : a.length ≤ 17) (hlb : b.length ≤ 17) : ∃ (x y : List Int) (e : Int), m_27 [wnD a b, iD n] = some (.tup [wnD x y, iD e]) ∧ x.length ≤ 1000 ∧ y.length ≤ 1000 ∧ (winE a b ≠ 0 → e = winE a b ∧ x = [] ∧ y = []) ∧
    (winE a b = 0 → ∃ c : Int, m_32 [wnD a b, iD n] = some (iD c) ∧ (c ≠ 0 → e = c ∧ x = [] ∧ y = []) ∧ (c = 0 → e = 0 ∧ m_33 [wnD a b, iD n] = some (wnD x y))) := by
  by_cases hb : winE a b ≠ 0
  · refine ⟨[], [], winE a b, ?_, by simp, by simp, fun _ => ⟨rfl, rfl, rfl⟩, fun h => absurd h hb⟩
    rw [m_27_eq]
    unfold shiftedOf_M
    rw [foldW, chkd_bad (by omega) (by omega) hb, pullD_some (0, [], 0, [], winE a b) (by rfl) (by rfl)]
    dsimp only
    by_cases c1 : n < IntKind.i64.wrap (0 - 3)
    · rw [if_pos c1, first2, pullI, if_pos hb, if_pos hb]; rfl
    · rw [if_neg c1]
      by_cases c2 : n > 3
      · rw [if_pos c2, first2, pullI, if_pos hb, if_pos hb]; rfl
      · rw [if_neg c2, first2, pullI, if_pos hb, if_pos hb]; rfl
  · have hz : winE a b = 0 := by omega
    have h := winE_zero hz
    have hlen := h.len
    by_cases c : -3 ≤ n ∧ n ≤ 3
    rotate_left
    · refine ⟨[], [], 2, ?_, by simp, by simp, fun h => absurd hz h, fun _ => ⟨2, by rw [shiftErr_is a b n (by omega), if_pos c], fun _ => ⟨rfl, rfl, rfl⟩, fun h => by omega⟩⟩
      rw [m_27_eq]
      unfold shiftedOf_M
      rw [foldW, chkd_eq h, pullX]
      dsimp only
      rw [wrap3]
      by_cases c1 : n < -3
      · rw [if_pos c1, first2, pullI, if_pos (by decide)]; rfl
      · rw [if_neg c1, if_pos (by omega), first2, pullI, if_pos (by decide)]; rfl
    · by_cases c2 : (-n).toNat + a.length + n.toNat > 15
      · refine ⟨[], [], 8, ?_, by simp, by simp, fun h => absurd hz h, fun _ => ⟨8, by rw [shiftErr_is a b n (by omega), if_neg (by omega), if_pos c2], fun _ => ⟨rfl, rfl, rfl⟩, fun h => by omega⟩⟩
        rw [m_27_eq]
        unfold shiftedOf_M
        rw [foldW, chkd_eq h, pullX]
        dsimp only
        rw [wrap3, if_neg (by omega), if_neg (by omega), first2, pullI, if_neg (by decide), foldW2, shifted_eq h c.1 c.2, pullZ]
        dsimp only
        rw [if_pos (by rw [pad_len]; omega)]
        rfl
      · exact ⟨_, _, 0, shiftedOf_eq h c.1 c.2 (by omega), by rw [pad_len]; omega, by rw [pad_len]; omega, fun h => absurd hz h, fun _ => ⟨0, by rw [shiftErr_is a b n (by omega), if_neg (by omega), if_neg c2], fun h => absurd rfl h, fun _ => ⟨rfl, shiftR_eq h c.1 c.2⟩⟩⟩
theorem s28 (a b : List Int) (hla : a.length ≤ 17) (hlb : b.length ≤ 17) : ∃ (x y : List Int) (e : Int), m_28 [wnD a b] = some (.tup [wnD x y, iD e]) ∧ x.length ≤ 1000 ∧ y.length ≤ 1000 ∧ (winE a b ≠ 0 → e = winE a b ∧ x = [] ∧ y = []) ∧
    (winE a b = 0 → e = 0 ∧ m_31 [wnD a b] = some (wnD x y)) := by
  by_cases hb : winE a b ≠ 0
  · refine ⟨[], [], winE a b, ?_, by simp, by simp, fun _ => ⟨rfl, rfl, rfl⟩, fun h => absurd h hb⟩
    rw [m_28_eq]
    unfold mirrored_M
    rw [foldW, chkWindow_all a b (by omega) (by omega), pullI, if_pos hb]
    rfl
  · have hz : winE a b = 0 := by omega
    have h := winE_zero hz
    exact ⟨_, _, 0, mirrored_eq h, by rw [mir_len]; omega, by rw [mir_len]; omega, fun h => absurd hz h, fun _ => ⟨rfl, mirrR_eq h⟩⟩
theorem s29 (a b : List Int) (t : Int) (hla : a.length ≤ 17) (hlb : b.length ≤ 17) : ∃ p q e : Int, m_29 [wnD a b, iD t] = some (.tup [.agg [iD p, iD q], iD e]) ∧ (winE a b ≠ 0 → e = winE a b ∧ p = 0 ∧ q = 0) ∧
    (winE a b = 0 → (¬ (0 ≤ t ∧ t ≤ 20) → e = 2 ∧ p = 0 ∧ q = 0) ∧ (0 ≤ t ∧ t ≤ 20 → e = 0 ∧ m_34 [wnD a b, iD t] = some (.agg [iD p, iD q]))) := by
  by_cases hb : winE a b ≠ 0
  · refine ⟨0, 0, winE a b, ?_, fun _ => ⟨rfl, rfl, rfl⟩, fun h => absurd h hb⟩
    rw [m_29_eq]
    unfold thrustBound_M
    rw [foldW, chkd_bad (by omega) (by omega) hb, pullD_some (0, [], 0, [], winE a b) (by rfl) (by rfl)]
    dsimp only
    by_cases c1 : t < 0
    · rw [if_pos c1, first2, pullI, if_pos hb, if_pos hb]
    · rw [if_neg c1]
      by_cases c2 : t > 20
      · rw [if_pos c2, first2, pullI, if_pos hb, if_pos hb]
      · rw [if_neg c2, first2, pullI, if_pos hb, if_pos hb]
  · have hz : winE a b = 0 := by omega
    have h := winE_zero hz
    by_cases c : 0 ≤ t ∧ t ≤ 20
    · exact ⟨_, _, 0, thrustBound_eq h c.1 c.2, fun h => absurd hz h, fun _ => ⟨fun k => absurd c k, fun _ => ⟨rfl, thrustBR_eq h c.1 c.2⟩⟩⟩
    · refine ⟨0, 0, 2, ?_, fun h => absurd hz h, fun _ => ⟨fun _ => ⟨rfl, rfl, rfl⟩, fun k => absurd k c⟩⟩
      rw [m_29_eq]
      unfold thrustBound_M
      rw [foldW, chkd_eq h, pullX]
      dsimp only
      by_cases c1 : t < 0
      · rw [if_pos c1, first2, pullI, if_pos (by decide)]; rfl
      · rw [if_neg c1, if_pos (by omega), first2, pullI, if_pos (by decide)]; rfl
theorem foldSame (x y : List Int) : [D.agg [D.list x.length (x.map iD), D.list y.length (y.map iD)], D.agg [D.list x.length (x.map iD), D.list y.length (y.map iD)]] = [wnD x y, wnD x y] := rfl
theorem sameNo : m_30 [.agg [.list ([] : List Int).length (([] : List Int).map iD), .list ([] : List Int).length (([] : List Int).map iD)], .agg [.list 0 [], .list 0 []]] = some (.one (.bool true)) := same_eq [] [] (by simp) (by simp)
theorem eqB (a b : Int) : (a == a && (b == b && true)) = true := by simp
theorem law5_eq (a b : List Int) (n t : Int) : m_5 [wnD a b, iD n, iD t] = some (.one (.bool true)) := by
  rw [m_5_eq]
  unfold law5_M
  rw [m_8_eq, pullB, if_neg (by decide), foldW, few_eq, pullB]
  by_cases hf : a.length ≤ 17 ∧ b.length ≤ 17
  rotate_left
  · rw [if_pos (by simpa using hf)]
  obtain ⟨x, y, e, h27, hx, hy, b27, g27⟩ := s27 a b n hf.1 hf.2
  obtain ⟨x2, y2, e2, h28, hx2, hy2, b28, g28⟩ := s28 a b hf.1 hf.2
  obtain ⟨p, q, e3, h29, b29, g29⟩ := s29 a b t hf.1 hf.2
  rw [if_neg (by simpa using hf), copyW_eq a b (by omega) (by omega), pullZ]
  dsimp only
  rw [foldW2, h27, pullX]
  dsimp only
  rw [pullZ]
  dsimp only
  rw [foldW, h28, pullX]
  dsimp only
  rw [pullZ]
  dsimp only
  rw [foldW2, h29, pullU]
  dsimp only
  rw [winErr_all, pullI]
  by_cases hb : winE a b ≠ 0
  · obtain ⟨rfl, rfl, rfl⟩ := b27 hb
    obtain ⟨rfl, rfl, rfl⟩ := b28 hb
    obtain ⟨rfl, rfl, rfl⟩ := b29 hb
    rw [if_pos hb, if_pos rfl, if_pos rfl, if_pos rfl, sameNo, pullB, if_pos rfl, pullB, if_pos rfl]
    rfl
  have hz : winE a b = 0 := by omega
  obtain ⟨rfl, h31⟩ := g28 hz
  obtain ⟨c, h32, bc, gc⟩ := g27 hz
  obtain ⟨t1, t2⟩ := g29 hz
  rw [if_neg hb, if_neg (fun h => h rfl), h31, pullZ]
  dsimp only
  rw [foldSame, same_eq x2 y2 hx2 hy2, pullB, if_neg (by decide), h32, pullI]
  have fin : ∀ (r : Bool), r = decide (0 ≤ t ∧ t ≤ 20) → (if r = false then (if e3 = (2 : Int) then some (D.one (.bool (p == (0 : Int) && (q == (0 : Int) && true)))) else some (.one (.bool false))) else (if e3 = (0 : Int) then pullD (α := Int × Int) (m_34 [wnD a b, iD t]) (fun d => (D.vi (D.at d 0), D.vi (D.at d 1))) (fun (r38, r39) => .agg [iD r38, iD r39]) fun (r38, r39) => (some (.one (.bool (p == r38 && (q == r39 && true))))) else some (.one (.bool false)))) = some (.one (.bool true)) := by
    intro r hr
    by_cases ht : 0 ≤ t ∧ t ≤ 20
    · obtain ⟨rfl, h34⟩ := t2 ht
      rw [hr, if_neg (by simpa using ht), if_pos rfl, h34, pullQ]
      dsimp only
      rw [eqB]
    · obtain ⟨rfl, rfl, rfl⟩ := t1 ht
      rw [hr, if_pos (by simpa using ht), if_pos rfl]
      rfl
  by_cases hc : c ≠ 0
  · obtain ⟨rfl, rfl, rfl⟩ := bc hc
    rw [if_pos hc, if_neg (fun h => h rfl), sameNo, pullB, if_neg (by decide), within_eq, pullB]
    exact fin _ rfl
  · have hc0 : c = 0 := by omega
    obtain ⟨rfl, h33⟩ := gc hc0
    rw [if_neg hc, if_neg (fun h => h rfl), foldW2, h33, pullZ]
    dsimp only
    rw [foldSame, same_eq x y hx hy, pullB, if_neg (by decide), within_eq, pullB]
    exact fin _ rfl
theorem law5_con (a b : List Int) (n t : Int) : Con 5 [.agg [lD a, lD b], .one (.int .i64 n), .one (.int .i64 t)] (.one (.bool true)) := m_5_ok (law5_eq a b n t)
end
end Go.Proofs.Ytbfefnfmdkgfjaa
/- ForceOthers: what the runs give, for every argument. -/
namespace Go.Proofs.Ytbfefnfmdkgfjaa.forceOthers
open Go.ChangeShapes Go.WideShapes Go.ChangeAt Go.RowKit Go.Joins Go.Ev
set_option maxRecDepth 100000 in
/-- WHAT THE RUNS GIVE, FOR EVERY ARGUMENT AND EVERY WORLD THAT HOLDS THE TABLES. -/
theorem contract (H : Type) (enc : TypeId × Value → H) (W : World) (base : Nat) (args : Array Value) (ds gs : List (DataW H)) (before : List MemPlace)
    (hval : ∀ (j : Nat) t v, Try.f5.params[j]? = some t → args[j]? = some v → Value.okWide Try.prog W .any base t v)
    (hW : DataW.Whole enc Try.prog Try.f5.params.toList Rows.forceOthersSpec.vars false W args.toList ds gs before) (hL : laidMetH Try.prog Rows.forceOthersRow.laid W) :
    Calls Try.prog 5 args W fun e W' => ∃ v, e = .returned v ∧ Rows.forceOthersSpec.post enc Try.prog Try.f5 false true false false W args v W' := by
  have hW' := hW
  have hlt := hW.lt
  obtain ⟨p, q, hA0, hV, rfl, hfz, hnd⟩ := hW
  have hA : DataW.TrodAll enc Try.prog W 0 (fun _ => true) true Try.f5.params.toList args.toList ds p := hA0
  rw [Try.params5] at hA hval
  obtain ⟨v0, vs0, d0, ds0, p0, q0, hargs, rfl, rfl, h0, r0⟩ := trodAll_cons hA
  obtain ⟨v1, vs1, d1, ds1, p1, q1, rfl, rfl, rfl, h1, r1⟩ := trodAll_cons r0
  obtain ⟨v2, vs2, d2, ds2, p2, q2, rfl, rfl, rfl, h2, r2⟩ := trodAll_cons r1
  obtain ⟨rfl, rfl, rfl⟩ := trodAll_nil r2
  obtain rfl : args = #[v0, v1, v2] := by cases args; simp_all
  obtain ⟨rfl, rfl⟩ := trodVars_none hV
  obtain ⟨e0, o0, k0⟩ := open_agg (ls := [.sl [.int .i64], .sl [.int .i64]]) 8 (by kernel_rfl) (by kernel_rfl) (by kernel_rfl) (hval 0 24 v0 rfl rfl) h0
  obtain ⟨a, b, rfl⟩ := win_of o0
  obtain ⟨e1, o1, k1⟩ := open_cell (c := .int .i64) 8 (by kernel_rfl) (by kernel_rfl) (by kernel_rfl) (hval 1 3 v1 rfl rfl) h1
  obtain ⟨n, rfl, -⟩ := int_of o1
  obtain ⟨e2, o2, k2⟩ := open_cell (c := .int .i64) 8 (by kernel_rfl) (by kernel_rfl) (by kernel_rfl) (hval 2 3 v2 rfl rfl) h2
  obtain ⟨t, rfl, -⟩ := int_of o2
  have hr : RpL (fun _ => True) W [.agg [lD a, lD b], .one (.int .i64 n), .one (.int .i64 t)] [v0, v1, v2] := by
    simp only [RpL]
    exact ⟨v0, _, rfl, k0, ⟨v1, _, rfl, k1, ⟨v2, _, rfl, k2, rfl⟩⟩⟩
  refine (law5_con a b n t W (fun _ => True) _ tabs0 hr).mono fun e W' ⟨v, he, hv, hg⟩ => ?_
  simp only [Rp] at hv
  subst he
  subst hv
  have hlaid : laidOutB Try.prog = true := by kernel_rfl
  exact ⟨_, rfl, post_below (pa := (p0 ++ (p1 ++ (p2 ++ [])))) (pv := []) hW' (fun _ _ _ => trodAll_cons_mk (shut_bool Try.underlying4 _) trodAll_mk0) (fun sp hsp => by
    rw [Try.params5]
    exact trodAll_cons_mk (stays hlaid (by kernel_rfl) (of_decide_eq_true (by kernel_rfl)) h0 hg (fun x hx => hlt x (by simp only [List.mem_append]; left; left; exact hx)) (fun x hx => hsp x (by simp only [List.mem_append]; left; left; exact hx))) (trodAll_cons_mk (stays hlaid (by kernel_rfl) (of_decide_eq_true (by kernel_rfl)) h1 hg (fun x hx => hlt x (by simp only [List.mem_append]; left; right; left; exact hx)) (fun x hx => hsp x (by simp only [List.mem_append]; left; right; left; exact hx))) (trodAll_cons_mk (stays hlaid (by kernel_rfl) (of_decide_eq_true (by kernel_rfl)) h2 hg (fun x hx => hlt x (by simp only [List.mem_append]; left; right; right; left; exact hx)) (fun x hx => hsp x (by simp only [List.mem_append]; left; right; right; left; exact hx))) (trodAll_mk0)))) (fun _ _ => rfl) rfl
    hg (ok_one (by kernel_rfl) rfl (okWide_bool_mk Try.underlying4 _))⟩
end Go.Proofs.Ytbfefnfmdkgfjaa.forceOthers
/- ForceOthers: closed facts of the witness. -/
namespace Go.Proofs.Ytbfefnfmdkgfjaa.forceOthers
open Go.ChangeShapes Go.WideShapes Go.ChangeAt Go.RowKit Go.Joins
/-- THE WITNESS's ARGUMENTS. -/
noncomputable def args0 : Array Value := #[.agg #[.slice none 0 0, .slice none 0 0], .int .i64 0, .int .i64 0]
/-- A WORLD FOR THE WITNESS: the heap that the program's own initialisers leave. -/
noncomputable def start (os : Os) : World := World.doorLaid Try.prog 400 os
theorem laid_met (os : Os) : laidMet Try.prog Rows.forceOthersRow.laid ((start os).forCall (fun _ _ => 0) ⟨#[], args0, []⟩).memory := ⟨[], rfl, List.nodup_nil, fun _ _ h => by cases h⟩
theorem reads (os : Os) {H : Type} (enc : TypeId × Value → H) : ∃ places, DataW.whole enc Try.prog ((start os).forCall (fun _ _ => 0) ⟨#[], args0, []⟩).memory Try.f5.params.toList Rows.forceOthersSpec.vars false args0.toList 8 = some ([.agg [.nil, .nil], .lit (.int .i64 0), .lit (.int .i64 0)], [], places) :=
  ⟨[], by kernel_rfl⟩
theorem vB (os : Os) : ((start os).forCall (fun _ _ => 0) ⟨#[], args0, []⟩).variablesB Try.prog = true := by kernel_rfl
theorem rB (os : Os) : (((start os).forCall (fun _ _ => 0) ⟨#[], args0, []⟩).heap.toList.drop Try.prog.globals.size).take ((begin Try.prog (fun _ _ => 0) default).world.heap.size - Try.prog.globals.size) = (begin Try.prog (fun _ _ => 0) default).world.heap.toList.drop Try.prog.globals.size := by kernel_rfl
theorem oB (os : Os) : Input.okWideB Try.prog ((start os).forCall (fun _ _ => 0) ⟨#[], args0, []⟩) 5 ⟨#[], args0, []⟩ = true := by kernel_rfl
theorem hB (os : Os) : (start os).os = os := by kernel_rfl
end Go.Proofs.Ytbfefnfmdkgfjaa.forceOthers
/- For any window, valid or not, any shift and any tolerance, the law ForceOthers of the program answers true, and its arguments read as they did. CONDITIONS: none. -/
namespace Go.Proofs.Ytbfefnfmdkgfjaa.forceOthers
open Go.ChangeShapes Go.WideShapes Go.ChangeAt Go.RowKit Go.Joins
set_option maxRecDepth 100000 in
theorem lifted (os : Os) (started : os.Started) (H : Type) (enc : TypeId × Value → H) (F : Stop.Interp) :
    ReturnsInHanded {} Try.checked os 5 .any ((OpenSpec.ofChange Rows.forceOthersSpec).preRow enc Try.prog Try.f5 Rows.forceOthersRow.domain false Rows.forceOthersRow.laid) (((OpenSpec.ofChange Rows.forceOthersSpec).at F).post enc Try.prog Try.f5 false true false false) := by
  obtain ⟨places, hx⟩ := reads os enc
  refine returnsInHanded_of_row (C := Try.checked) (s := OpenSpec.ofChange Rows.forceOthersSpec) own started (by kernel_rfl) Try.func5
    (witness_row_at (enc := enc) (C := Try.checked) false (start os) args0 (hB os) (vB os) (rB os) (oB os)
      (OpenSpec.preRow_of_cond 8 hx (by kernel_rfl) (fun k hk => by cases hk) (by kernel_rfl) (laid_met os))) ?_
  intro W base args ds gs before hval hW _ _ _ hL _ _
  exact contract H enc W base args ds gs before hval hW hL
theorem said : Rows.ForceOthersSaid :=
  OpenClaim.holds_of_cond 5 Try.f5 rfl rfl rfl rfl rfl rfl rfl ⟨rfl, rfl, rfl, rfl, rfl⟩ rfl rfl rfl rfl rfl (by kernel_rfl) Try.func5 (by kernel_rfl)
    (of_decide_eq_true (by kernel_rfl)) (by unfold Func.isWrapper; first | (rw [if_pos (by decide +kernel)]; kernel_rfl) | (rw [if_neg (by decide +kernel)]; exact ⟨rfl, rfl⟩))
    (fun os started H enc _ F => by rw [OpenClaim.pre_eq_preRow]; exact lifted os started H enc F)
end Go.Proofs.Ytbfefnfmdkgfjaa.forceOthers
