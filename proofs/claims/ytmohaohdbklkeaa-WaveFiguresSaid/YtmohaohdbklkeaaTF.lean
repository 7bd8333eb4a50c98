/- For any rules and record, valid or not, the law WaveFigures of the program answers true, and its arguments read as they did. CONDITIONS: none. -/
import Derived.Test.YtmohaohdbklkeaaTE
import Derived.Test.YtmohaohdbklkeaaTA
set_option linter.unusedVariables false
set_option linter.unusedSimpArgs false
set_option linter.unusedSectionVars false
set_option linter.unnecessarySimpa false
namespace Go.Proofs.Ytmohaohdbklkeaa
open Go.Ev Go.RowKit
set_option maxRecDepth 100000
set_option maxHeartbeats 8000000
set_option linter.all false
noncomputable section
abbrev shNL3_0 (a0 : Int) (a1 : Int) (a2 : Int) (a3 : Int) (a4 : Int) (a5 : Int) (a6 : Int) (a7 : Int) (a8 : Int) : D := .agg [.one (.int .i64 a0), .one (.int .i64 a1), .one (.int .i64 a2), .one (.int .i64 a3), .one (.int .i64 a4), .one (.int .i64 a5), .one (.int .i64 a6), .one (.int .i64 a7), .one (.int .i64 a8)]
def shNL3_0P (d : D) : Int × Int × Int × Int × Int × Int × Int × Int × Int := (D.vi (D.at d 0), D.vi (D.at d 1), D.vi (D.at d 2), D.vi (D.at d 3), D.vi (D.at d 4), D.vi (D.at d 5), D.vi (D.at d 6), D.vi (D.at d 7), D.vi (D.at d 8))
def bothErr_sp : List LSpec := []
def bothErr_M (re fa fb fc fd : Int) (k : Nat) (c : List D) (st : Int) (kb : Nat) (cb : List D) : Option D := pullD (α := Int) (m_53 [.agg [iD re, iD fa, iD fb, iD fc, iD fd, .list k c]]) (fun d => ((D.vi d))) (fun r0 => iD r0) fun r0 => ((if r0 ≠ (0 : Int) then some (iD r0) else pullD (α := Int) (m_41 [.agg [iD st, .list kb cb]]) (fun d => ((D.vi d))) (fun r1 => iD r1) fun r1 => (some (iD r1))))
theorem bothErr_M_ok (re fa fb fc fd : Int) (k : Nat) (c : List D) (st : Int) (kb : Nat) (cb : List D) {r : D} (h : bothErr_M re fa fb fc fd k c st kb cb = some r) : Con 17 [.agg [iD re, iD fa, iD fb, iD fc, iD fd, .list k c], .agg [iD st, .list kb cb]] r := by
  unfold bothErr_M at h
  obtain ⟨r0, f1_, h2_⟩ := pullD_elim h
  replace f1_ := m_53_ok f1_
  by_cases b3_ : r0 ≠ (0 : Int)
  · have h4_ := (if_pos b3_).symm.trans h2_
    obtain rfl := Option.some.inj h4_
    exact con_pc (op := true) (I := [17]) (sp := bothErr_sp) 3000 (bT 1 []) [iD r0] [c_b b3_] [k_c f1_] (by kernel_rfl)
  have h4_ := (if_neg b3_).symm.trans h2_
  have b5_ : r0 = (0 : Int) := by first | exact b3_ | simpa using b3_
  obtain ⟨r1, f6_, h7_⟩ := pullD_elim h4_
  replace f6_ := m_41_ok f6_
  obtain rfl := Option.some.inj h7_
  exact con_pc (op := true) (I := [17]) (sp := bothErr_sp) 3000 (bF 1 []) [iD r0, iD r1] [c_bn b5_] [k_c f1_, k_c f6_] (by kernel_rfl)
def m_17 (ds : List D) : Option D := pullD (α := Int × Int × Int × Int × Int × Nat × (List D) × Int × Nat × (List D)) (some (.tup ds)) (fun d => ((D.vi (D.at (D.at d 0) 0)), (D.vi (D.at (D.at d 0) 1)), (D.vi (D.at (D.at d 0) 2)), (D.vi (D.at (D.at d 0) 3)), (D.vi (D.at (D.at d 0) 4)), (D.ln (D.at (D.at d 0) 5)), (D.lc (D.at (D.at d 0) 5)), (D.vi (D.at (D.at d 1) 0)), (D.ln (D.at (D.at d 1) 1)), (D.lc (D.at (D.at d 1) 1)))) (fun (re, fa, fb, fc, fd, k, c, st, kb, cb) => .tup [.agg [iD re, iD fa, iD fb, iD fc, iD fd, .list k c], .agg [iD st, .list kb cb]]) fun (re, fa, fb, fc, fd, k, c, st, kb, cb) => bothErr_M re fa fb fc fd k c st kb cb
theorem m_17_ok {ds : List D} {r : D} (h : m_17 ds = some r) : Con 17 ds r := by
  unfold m_17 at h
  obtain ⟨⟨re, fa, fb, fc, fd, k, c, st, kb, cb⟩, e0, h0⟩ := pullD_elim h
  obtain rfl := tup_inj e0
  exact bothErr_M_ok re fa fb fc fd k c st kb cb h0
theorem m_17_eq (re fa fb fc fd : Int) (k : Nat) (c : List D) (st : Int) (kb : Nat) (cb : List D) : m_17 [.agg [iD re, iD fa, iD fb, iD fc, iD fd, .list k c], .agg [iD st, .list kb cb]] = bothErr_M re fa fb fc fd k c st kb cb := pullD_some (re, fa, fb, fc, fd, k, c, st, kb, cb) rfl rfl
def peakR_x3_0 : LExit := ⟨some 0, [.val 6], (List.range' 7 20)⟩
def peakR_sp : List LSpec := [⟨18, 3, [peakR_x3_0]⟩]
def peakR_L3_E (re fa fb fc fd : Int) (k : Nat) (c : List D) (st : Int) (kb : Nat) (cb : List D)  : List AV × AHeap := ([.agg [.pure (.int .i64 re), .pure (.int .i64 fa), .pure (.int .i64 fb), .pure (.int .i64 fc), .pure (.int .i64 fd), .dsl 0], .agg [.pure (.int .i64 st), .dsl 1], .ptr 2 0, .ptr 3 0, .pure (.int .i64 (0 : Int)), .ptr 4 0, .pure (.int .i64 (0 : Int)), .pure (.int .i64 (0 : Int)), .pure (.tuple #[]), .pure (.tuple #[]), .pure (.tuple #[]), .pure (.tuple #[]), .pure (.tuple #[]), .pure (.tuple #[]), .pure (.tuple #[]), .pure (.tuple #[]), .pure (.tuple #[]), .pure (.tuple #[]), .pure (.tuple #[]), .pure (.tuple #[]), .pure (.tuple #[]), .pure (.tuple #[]), .pure (.tuple #[]), .pure (.tuple #[]), .pure (.tuple #[]), .pure (.tuple #[]), .pure (.tuple #[]), .pure (.tuple #[]), .pure (.tuple #[]), .pure (.tuple #[]), .pure (.tuple #[]), .pure (.tuple #[]), .pure (.tuple #[]), .pure (.tuple #[]), .pure (.tuple #[]), .pure (.tuple #[]), .pure (.tuple #[]), .pure (.tuple #[]), .pure (.tuple #[]), .pure (.tuple #[]), .pure (.tuple #[]), .pure (.tuple #[]), .pure (.tuple #[]), .pure (.tuple #[]), .pure (.tuple #[])], [(4, { cells := [.pure (.int .i64 (0 : Int)), .pure (.int .i64 (0 : Int))], opn := none, kind := .cells }), (3, { cells := [.pure (.int .i64 st), .dsl 1], opn := none, kind := .cells }), (2, { cells := [.pure (.int .i64 re), .pure (.int .i64 fa), .pure (.int .i64 fb), .pure (.int .i64 fc), .pure (.int .i64 fd), .dsl 0], opn := none, kind := .cells }), (1, { cells := [], opn := none, kind := .deep kb cb }), (0, { cells := [], opn := none, kind := .deep k c })])
def peakR_L3_A : LoopAt := ⟨18, loopAt Try.prog 18 0, 5, 26, 5, noFrame⟩
theorem peakR_L3_ok : (peakR_L3_A).OK := ⟨by show 5 ≤ 26; decide, by show 5 ≤ 5; decide, by kernel_rfl, rfl⟩
def peakR_L3_gs (re fa fb fc fd : Int) (k : Nat) (c : List D) (st : Int) (kb : Nat) (cb : List D)  : Go.Ev.Rd → Option GS
  | .next 0 ds => ghost [.val 6, .val 7] (List.range' 8 19) (peakR_L3_E re fa fb fc fd k c st kb cb).1 (peakR_L3_E re fa fb fc fd k c st kb cb).2 5 ds
  | .out 0 ds => ghost peakR_x3_0.live peakR_x3_0.junk (peakR_L3_E re fa fb fc fd k c st kb cb).1 (peakR_L3_E re fa fb fc fd k c st kb cb).2 5 ds
  | _ => none
def peakR_L3_ex : Nat → Option Nat
  | 0 => peakR_x3_0.ex
  | _ => none
def peakR_L3_ax : Go.Ev.Rd → AX
  | .next _ _ => .normal
  | .out j _ => axOf (peakR_L3_ex j)
def peakR_L3_S0 (re fa fb fc fd : Int) (k : Nat) (c : List D) (st : Int) (kb : Nat) (cb : List D)  (ds : List D) : Option Go.Ev.Rd := pullD (α := Int × Int) (some (.tup ds)) (fun d => ((D.vi (D.at d 0)), (D.vi (D.at d 1)))) (fun (s6, s7) => .tup [iD s6, iD s7]) fun (s6, s7) => ((if s7 < (kb : Int) then guardP ((0 : Int) ≤ s7 ∧ s7.toNat < kb) (pullD (α := Int) (readD cb (s7.toNat * 1) 1 false) (fun d => ((D.vi d))) (fun v0 => iD v0) fun v0 => (guardP ((0 : Int) ≤ s6 ∧ s6.toNat < kb) (pullD (α := Int) (readD cb (s6.toNat * 1) 1 false) (fun d => ((D.vi d))) (fun v1 => iD v1) fun v1 => ((if v0 > v1 then some (.next 0 [iD s7, iD (IntKind.i64.wrap (s7 + (1 : Int)))]) else some (.next 0 [iD s6, iD (IntKind.i64.wrap (s7 + (1 : Int)))])))))) else some (.out 0 [iD s6])))
def peakR_L3_S (re fa fb fc fd : Int) (k : Nat) (c : List D) (st : Int) (kb : Nat) (cb : List D)  : Go.Ev.Rd → Option Go.Ev.Rd
  | .next 0 ds => peakR_L3_S0 re fa fb fc fd k c st kb cb ds
  | _ => none
theorem peakR_L3_S_0 (re fa fb fc fd : Int) (k : Nat) (c : List D) (st : Int) (kb : Nat) (cb : List D)  (ds : List D) : peakR_L3_S re fa fb fc fd k c st kb cb (.next 0 ds) = peakR_L3_S0 re fa fb fc fd k c st kb cb ds := rfl
theorem peakR_L3_S_ok (re fa fb fc fd : Int) (k : Nat) (c : List D) (st : Int) (kb : Nat) (cb : List D)  : ∀ s_ t_, peakR_L3_S re fa fb fc fd k c st kb cb s_ = some t_ → Step (ctx [18] peakR_sp) Tabs peakR_L3_A (stateOf (peakR_L3_gs re fa fb fc fd k c st kb cb s_)) (stateOf (peakR_L3_gs re fa fb fc fd k c st kb cb t_)) (peakR_L3_ax t_) ∧ EndOK peakR_L3_A.nx peakR_L3_A.low (peakR_L3_gs re fa fb fc fd k c st kb cb) t_
  | .next 0 ds, t_, h => by
    have h_ : peakR_L3_S0 re fa fb fc fd k c st kb cb ds = some t_ := h
    clear h
    unfold peakR_L3_S0 at h_
    obtain ⟨⟨s6, s7⟩, e0, h0⟩ := pullD_elim h_
    clear h_
    obtain rfl := tup_inj e0
    by_cases b1_ : s7 < (kb : Int)
    · have h2_ := (if_pos b1_).symm.trans h0
      obtain ⟨f3_, h4_⟩ := guardP_elim h2_
      obtain ⟨v0, f5_, h6_⟩ := pullD_elim h4_
      replace f5_ := readD_elim f5_
      obtain ⟨f7_, h8_⟩ := guardP_elim h6_
      obtain ⟨v1, f9_, h10_⟩ := pullD_elim h8_
      replace f9_ := readD_elim f9_
      by_cases b11_ : v0 > v1
      · have h12_ := (if_pos b11_).symm.trans h10_
        obtain rfl := Option.some.inj h12_
        exact ⟨step_pc 3000 (bT 2 []) [iD v0, iD v1] [c_d b1_, c_f f3_, c_f f5_, c_f f7_, c_f f9_, c_d b11_] [] _ rfl (by kernel_rfl) (by kernel_rfl) (by kernel_rfl) (by kernel_rfl) (by kernel_rfl) (by kernel_rfl), trivial⟩
      have h12_ := (if_neg b11_).symm.trans h10_
      obtain rfl := Option.some.inj h12_
      exact ⟨step_pc 3000 (bT 1 (bF 1 [])) [iD v0, iD v1] [c_d b1_, c_f f3_, c_f f5_, c_f f7_, c_f f9_, c_n b11_] [] _ rfl (by kernel_rfl) (by kernel_rfl) (by kernel_rfl) (by kernel_rfl) (by kernel_rfl) (by kernel_rfl), trivial⟩
    have h2_ := (if_neg b1_).symm.trans h0
    obtain rfl := Option.some.inj h2_
    exact ⟨step_pc 3000 (bF 1 []) [] [c_n b1_] [] _ rfl (by kernel_rfl) (by kernel_rfl) (by kernel_rfl) (by kernel_rfl) (by kernel_rfl) (by kernel_rfl), by kernel_rfl, by kernel_rfl⟩
  | .next (_ + 1) _, _, h => by cases h
  | .out _ _, _, h => by cases h
theorem peakR_L3_go (re fa fb fc fd : Int) (k : Nat) (c : List D) (st : Int) (kb : Nat) (cb : List D)  {q : Nat} {ds : List D} {j : Nat} {es : List D} (h : runR (peakR_L3_S re fa fb fc fd k c st kb cb) (.next q ds) = some (.out j es)) : Runs (ctx [18] peakR_sp) Tabs peakR_L3_A (stateOf (peakR_L3_gs re fa fb fc fd k c st kb cb (.next q ds))) (stateOf (peakR_L3_gs re fa fb fc fd k c st kb cb (.out j es))) (peakR_L3_ax (.out j es)) ∧ (nxtOf (peakR_L3_gs re fa fb fc fd k c st kb cb (.out j es)), lowGS (peakR_L3_gs re fa fb fc fd k c st kb cb (.out j es))) = (peakR_L3_A.nx, peakR_L3_A.low) :=
  runs_of' (good true _ _) peakR_L3_ok (ax := peakR_L3_ax) (fun _ _ => rfl) (fun _ _ => axOf_end _) (peakR_L3_S_ok re fa fb fc fd k c st kb cb) h
theorem peakR_L3_in0 (re fa fb fc fd : Int) (k : Nat) (c : List D) (st : Int) (kb : Nat) (cb : List D)  {es : List D} (h : runR (peakR_L3_S re fa fb fc fd k c st kb cb) (.next 0 [iD ((0 : Int)), iD ((0 : Int))]) = some (.out 0 es)) : LoopC (loopAt Try.prog 18 0) (peakR_L3_E re fa fb fc fd k c st kb cb) 5 noFrame peakR_x3_0 es :=
  have r := peakR_L3_go re fa fb fc fd k c st kb cb h
  loopin_as rfl (loop_in (l := peakR_L3_A) (E := (peakR_L3_E re fa fb fc fd k c st kb cb)) (S := stateOf (peakR_L3_gs re fa fb fc fd k c st kb cb (.next 0 [iD ((0 : Int)), iD ((0 : Int))]))) (ns := nsOf (peakR_L3_gs re fa fb fc fd k c st kb cb (.next 0 [iD ((0 : Int)), iD ((0 : Int))]))) peakR_L3_ok r.1 r.2 (by kernel_rfl) (by kernel_rfl) (by kernel_rfl) (by kernel_rfl))
def peakR_M (re fa fb fc fd : Int) (k : Nat) (c : List D) (st : Int) (kb : Nat) (cb : List D) : Option D := bindL (runR (peakR_L3_S re fa fb fc fd k c st kb cb) (.next 0 [iD ((0 : Int)), iD ((0 : Int))])) fun j ds => (if j = 0 then pullD (α := Int) (some (.tup ds)) (fun d => ((D.vi (D.at d 0)))) (fun l0 => .tup [iD l0]) fun l0 => (guardP ((0 : Int) ≤ l0 ∧ l0.toNat < kb) (pullD (α := Int) (readD cb (l0.toNat * 1) 1 false) (fun d => ((D.vi d))) (fun v1 => iD v1) fun v1 => (pullD (α := Int) (readD cb (l0.toNat * 1) 1 false) (fun d => ((D.vi d))) (fun v2 => iD v2) fun v2 => (some (.tup [iD l0, .agg [iD (IntKind.i64.wrap (v1 - re)), iD (IntKind.i64.wrap (v2 + re))]]))))) else none)
theorem peakR_M_ok (re fa fb fc fd : Int) (k : Nat) (c : List D) (st : Int) (kb : Nat) (cb : List D) {r : D} (h : peakR_M re fa fb fc fd k c st kb cb = some r) : Con 18 [.agg [iD re, iD fa, iD fb, iD fc, iD fd, .list k c], .agg [iD st, .list kb cb]] r := by
  unfold peakR_M at h
  obtain ⟨j, ds, e1_, h2_⟩ := bindL_elim h
  by_cases j3_ : j = 0
  · have h6_ := (if_pos j3_).symm.trans h2_
    clear h2_
    subst j3_
    obtain ⟨l0, e4_, h7_⟩ := pullD_elim h6_
    clear h6_
    obtain rfl := tup_inj e4_
    have k5_ := peakR_L3_in0 re fa fb fc fd k c st kb cb e1_
    obtain ⟨f8_, h9_⟩ := guardP_elim h7_
    obtain ⟨v1, f10_, h11_⟩ := pullD_elim h9_
    replace f10_ := readD_elim f10_
    obtain ⟨v2, f12_, h13_⟩ := pullD_elim h11_
    replace f12_ := readD_elim f12_
    obtain rfl := Option.some.inj h13_
    exact con_pc (op := true) (I := [18]) (sp := peakR_sp) 3000 [] [.tup [iD (Int.ofNat 0), iD l0], iD v1, iD v2] [c_f f8_, c_f f10_, c_f f8_, c_f f12_] [k_l k5_ [] [.tup [iD (Int.ofNat 0), iD l0], iD v1, iD v2] [iD v1, iD v2]] (by kernel_rfl)
  have h14_ := (if_neg j3_).symm.trans h2_
  clear h2_
  cases h14_
def m_18 (ds : List D) : Option D := pullD (α := Int × Int × Int × Int × Int × Nat × (List D) × Int × Nat × (List D)) (some (.tup ds)) (fun d => ((D.vi (D.at (D.at d 0) 0)), (D.vi (D.at (D.at d 0) 1)), (D.vi (D.at (D.at d 0) 2)), (D.vi (D.at (D.at d 0) 3)), (D.vi (D.at (D.at d 0) 4)), (D.ln (D.at (D.at d 0) 5)), (D.lc (D.at (D.at d 0) 5)), (D.vi (D.at (D.at d 1) 0)), (D.ln (D.at (D.at d 1) 1)), (D.lc (D.at (D.at d 1) 1)))) (fun (re, fa, fb, fc, fd, k, c, st, kb, cb) => .tup [.agg [iD re, iD fa, iD fb, iD fc, iD fd, .list k c], .agg [iD st, .list kb cb]]) fun (re, fa, fb, fc, fd, k, c, st, kb, cb) => peakR_M re fa fb fc fd k c st kb cb
theorem m_18_ok {ds : List D} {r : D} (h : m_18 ds = some r) : Con 18 ds r := by
  unfold m_18 at h
  obtain ⟨⟨re, fa, fb, fc, fd, k, c, st, kb, cb⟩, e0, h0⟩ := pullD_elim h
  obtain rfl := tup_inj e0
  exact peakR_M_ok re fa fb fc fd k c st kb cb h0
theorem m_18_eq (re fa fb fc fd : Int) (k : Nat) (c : List D) (st : Int) (kb : Nat) (cb : List D) : m_18 [.agg [iD re, iD fa, iD fb, iD fc, iD fd, .list k c], .agg [iD st, .list kb cb]] = peakR_M re fa fb fc fd k c st kb cb := pullD_some (re, fa, fb, fc, fd, k, c, st, kb, cb) rfl rfl
def levelR_x3_0 : LExit := ⟨some 0, [.cval 9 0, .cval 9 1], (10 :: (List.range' 16 36))⟩
def levelR_sp : List LSpec := [⟨51, 3, [levelR_x3_0]⟩]
def levelR_L3_E (re fa fb fc fd : Int) (k : Nat) (c : List D) (st : Int) (kb : Nat) (cb : List D) (n lo hi : Int)  : List AV × AHeap := ([.agg [.pure (.int .i64 re), .pure (.int .i64 fa), .pure (.int .i64 fb), .pure (.int .i64 fc), .pure (.int .i64 fd), .dsl 0], .agg [.pure (.int .i64 st), .dsl 1], .pure (.int .i64 n), .pure (.agg #[.int .i64 lo, .int .i64 hi]), .ptr 2 0, .ptr 3 0, .pure (.tuple #[]), .ptr 4 0, .ptr 5 0, .ptr 6 0, .pure (.int .i64 (IntKind.i64.wrap ((kb : Int) - (1 : Int)))), .pure (.agg #[.int .i64 (-1 : Int), .int .i64 (-1 : Int)]), .ptr 3 1, .dsl 1, .pure (.int .i64 (kb : Int)), .pure (.int .i64 (IntKind.i64.wrap ((kb : Int) - (1 : Int)))), .pure (.tuple #[]), .pure (.tuple #[]), .pure (.tuple #[]), .pure (.tuple #[]), .pure (.tuple #[]), .pure (.tuple #[]), .pure (.tuple #[]), .pure (.tuple #[]), .pure (.tuple #[]), .pure (.tuple #[]), .pure (.tuple #[]), .pure (.tuple #[]), .pure (.tuple #[]), .pure (.tuple #[]), .pure (.tuple #[]), .pure (.tuple #[]), .pure (.tuple #[]), .pure (.tuple #[]), .pure (.tuple #[]), .pure (.tuple #[]), .pure (.tuple #[]), .pure (.tuple #[]), .pure (.tuple #[]), .pure (.tuple #[]), .pure (.tuple #[]), .pure (.tuple #[]), .pure (.tuple #[]), .pure (.tuple #[]), .pure (.tuple #[]), .pure (.tuple #[]), .pure (.tuple #[]), .pure (.tuple #[]), .pure (.tuple #[]), .pure (.tuple #[]), .pure (.tuple #[]), .pure (.tuple #[]), .pure (.tuple #[])], [(6, { cells := [.pure (.int .i64 (-1 : Int)), .pure (.int .i64 (-1 : Int))], opn := none, kind := .cells }), (5, { cells := [.pure (.int .i64 (0 : Int)), .pure (.int .i64 (0 : Int))], opn := none, kind := .cells }), (4, { cells := [.pure (.int .i64 lo), .pure (.int .i64 hi)], opn := none, kind := .cells }), (3, { cells := [.pure (.int .i64 st), .dsl 1], opn := none, kind := .cells }), (2, { cells := [.pure (.int .i64 re), .pure (.int .i64 fa), .pure (.int .i64 fb), .pure (.int .i64 fc), .pure (.int .i64 fd), .dsl 0], opn := none, kind := .cells }), (1, { cells := [], opn := none, kind := .deep kb cb }), (0, { cells := [], opn := none, kind := .deep k c })])
def levelR_L3_A : LoopAt := ⟨51, loopAt Try.prog 51 0, 7, 46, 6, noFrame⟩
theorem levelR_L3_ok : (levelR_L3_A).OK := ⟨by show 7 ≤ 46; decide, by show 6 ≤ 7; decide, by kernel_rfl, rfl⟩
def levelR_L3_gs (re fa fb fc fd : Int) (k : Nat) (c : List D) (st : Int) (kb : Nat) (cb : List D) (n lo hi : Int)  : Go.Ev.Rd → Option GS
  | .next 0 ds => ghost [.val 10, .cval 9 0, .cval 9 1] (List.range' 16 36) (levelR_L3_E re fa fb fc fd k c st kb cb n lo hi).1 (levelR_L3_E re fa fb fc fd k c st kb cb n lo hi).2 7 ds
  | .out 0 ds => ghost levelR_x3_0.live levelR_x3_0.junk (levelR_L3_E re fa fb fc fd k c st kb cb n lo hi).1 (levelR_L3_E re fa fb fc fd k c st kb cb n lo hi).2 7 ds
  | _ => none
def levelR_L3_ex : Nat → Option Nat
  | 0 => levelR_x3_0.ex
  | _ => none
def levelR_L3_ax : Go.Ev.Rd → AX
  | .next _ _ => .normal
  | .out j _ => axOf (levelR_L3_ex j)
def levelR_L3_S0 (re fa fb fc fd : Int) (k : Nat) (c : List D) (st : Int) (kb : Nat) (cb : List D) (n lo hi : Int)  (ds : List D) : Option Go.Ev.Rd := pullD (α := Int × Int × Int) (some (.tup ds)) (fun d => ((D.vi (D.at d 0)), (D.vi (D.at d 1)), (D.vi (D.at d 2)))) (fun (s10, s9_0, s9_1) => .tup [iD s10, iD s9_0, iD s9_1]) fun (s10, s9_0, s9_1) => ((if s10 ≥ (0 : Int) then guardP ((0 : Int) ≤ s10 ∧ s10.toNat < kb) (pullD (α := Int) (readD cb (s10.toNat * 1) 1 false) (fun d => ((D.vi d))) (fun v0 => iD v0) fun v0 => ((if IntKind.i64.wrap ((10 : Int) * IntKind.i64.wrap (v0 + re)) ≥ IntKind.i64.wrap (n * lo) then pullD (α := Int) (readD cb (s10.toNat * 1) 1 false) (fun d => ((D.vi d))) (fun v1 => iD v1) fun v1 => ((if IntKind.i64.wrap ((10 : Int) * IntKind.i64.wrap (v1 - re)) ≥ IntKind.i64.wrap (n * hi) then some (.next 0 [iD (IntKind.i64.wrap (s10 - (1 : Int))), iD s10, iD s10]) else some (.next 0 [iD (IntKind.i64.wrap (s10 - (1 : Int))), iD s10, iD s9_1]))) else pullD (α := Int) (readD cb (s10.toNat * 1) 1 false) (fun d => ((D.vi d))) (fun v2 => iD v2) fun v2 => ((if IntKind.i64.wrap ((10 : Int) * IntKind.i64.wrap (v2 - re)) ≥ IntKind.i64.wrap (n * hi) then some (.next 0 [iD (IntKind.i64.wrap (s10 - (1 : Int))), iD s9_0, iD s10]) else some (.next 0 [iD (IntKind.i64.wrap (s10 - (1 : Int))), iD s9_0, iD s9_1])))))) else some (.out 0 [iD s9_0, iD s9_1])))
def levelR_L3_S (re fa fb fc fd : Int) (k : Nat) (c : List D) (st : Int) (kb : Nat) (cb : List D) (n lo hi : Int)  : Go.Ev.Rd → Option Go.Ev.Rd
  | .next 0 ds => levelR_L3_S0 re fa fb fc fd k c st kb cb n lo hi ds
  | _ => none
theorem levelR_L3_S_0 (re fa fb fc fd : Int) (k : Nat) (c : List D) (st : Int) (kb : Nat) (cb : List D) (n lo hi : Int)  (ds : List D) : levelR_L3_S re fa fb fc fd k c st kb cb n lo hi (.next 0 ds) = levelR_L3_S0 re fa fb fc fd k c st kb cb n lo hi ds := rfl
theorem levelR_L3_S_ok (re fa fb fc fd : Int) (k : Nat) (c : List D) (st : Int) (kb : Nat) (cb : List D) (n lo hi : Int)  : ∀ s_ t_, levelR_L3_S re fa fb fc fd k c st kb cb n lo hi s_ = some t_ → Step (ctx [51] levelR_sp) Tabs levelR_L3_A (stateOf (levelR_L3_gs re fa fb fc fd k c st kb cb n lo hi s_)) (stateOf (levelR_L3_gs re fa fb fc fd k c st kb cb n lo hi t_)) (levelR_L3_ax t_) ∧ EndOK levelR_L3_A.nx levelR_L3_A.low (levelR_L3_gs re fa fb fc fd k c st kb cb n lo hi) t_
  | .next 0 ds, t_, h => by
    have h_ : levelR_L3_S0 re fa fb fc fd k c st kb cb n lo hi ds = some t_ := h
    clear h
    unfold levelR_L3_S0 at h_
    obtain ⟨⟨s10, s9_0, s9_1⟩, e0, h0⟩ := pullD_elim h_
    clear h_
    obtain rfl := tup_inj e0
    by_cases b1_ : s10 ≥ (0 : Int)
    · have h2_ := (if_pos b1_).symm.trans h0
      obtain ⟨f3_, h4_⟩ := guardP_elim h2_
      obtain ⟨v0, f5_, h6_⟩ := pullD_elim h4_
      replace f5_ := readD_elim f5_
      by_cases b7_ : IntKind.i64.wrap ((10 : Int) * IntKind.i64.wrap (v0 + re)) ≥ IntKind.i64.wrap (n * lo)
      · have h8_ := (if_pos b7_).symm.trans h6_
        obtain ⟨v1, f9_, h10_⟩ := pullD_elim h8_
        replace f9_ := readD_elim f9_
        by_cases b11_ : IntKind.i64.wrap ((10 : Int) * IntKind.i64.wrap (v1 - re)) ≥ IntKind.i64.wrap (n * hi)
        · have h12_ := (if_pos b11_).symm.trans h10_
          obtain rfl := Option.some.inj h12_
          exact ⟨step_pc 3000 (bT 3 []) [iD v0, iD v1] [c_d b1_, c_f f3_, c_f f5_, c_d b7_, c_f f3_, c_f f9_, c_d b11_] [] _ rfl (by kernel_rfl) (by kernel_rfl) (by kernel_rfl) (by kernel_rfl) (by kernel_rfl) (by kernel_rfl), trivial⟩
        have h12_ := (if_neg b11_).symm.trans h10_
        obtain rfl := Option.some.inj h12_
        exact ⟨step_pc 3000 (bT 2 (bF 1 [])) [iD v0, iD v1] [c_d b1_, c_f f3_, c_f f5_, c_d b7_, c_f f3_, c_f f9_, c_n b11_] [] _ rfl (by kernel_rfl) (by kernel_rfl) (by kernel_rfl) (by kernel_rfl) (by kernel_rfl) (by kernel_rfl), trivial⟩
      have h8_ := (if_neg b7_).symm.trans h6_
      obtain ⟨v2, f13_, h14_⟩ := pullD_elim h8_
      replace f13_ := readD_elim f13_
      by_cases b15_ : IntKind.i64.wrap ((10 : Int) * IntKind.i64.wrap (v2 - re)) ≥ IntKind.i64.wrap (n * hi)
      · have h16_ := (if_pos b15_).symm.trans h14_
        obtain rfl := Option.some.inj h16_
        exact ⟨step_pc 3000 (bT 1 (bF 1 (bT 1 []))) [iD v0, iD v2] [c_d b1_, c_f f3_, c_f f5_, c_n b7_, c_f f3_, c_f f13_, c_d b15_] [] _ rfl (by kernel_rfl) (by kernel_rfl) (by kernel_rfl) (by kernel_rfl) (by kernel_rfl) (by kernel_rfl), trivial⟩
      have h16_ := (if_neg b15_).symm.trans h14_
      obtain rfl := Option.some.inj h16_
      exact ⟨step_pc 3000 (bT 1 (bF 2 [])) [iD v0, iD v2] [c_d b1_, c_f f3_, c_f f5_, c_n b7_, c_f f3_, c_f f13_, c_n b15_] [] _ rfl (by kernel_rfl) (by kernel_rfl) (by kernel_rfl) (by kernel_rfl) (by kernel_rfl) (by kernel_rfl), trivial⟩
    have h2_ := (if_neg b1_).symm.trans h0
    obtain rfl := Option.some.inj h2_
    exact ⟨step_pc 3000 (bF 1 []) [] [c_n b1_] [] _ rfl (by kernel_rfl) (by kernel_rfl) (by kernel_rfl) (by kernel_rfl) (by kernel_rfl) (by kernel_rfl), by kernel_rfl, by kernel_rfl⟩
  | .next (_ + 1) _, _, h => by cases h
  | .out _ _, _, h => by cases h
theorem levelR_L3_go (re fa fb fc fd : Int) (k : Nat) (c : List D) (st : Int) (kb : Nat) (cb : List D) (n lo hi : Int)  {q : Nat} {ds : List D} {j : Nat} {es : List D} (h : runR (levelR_L3_S re fa fb fc fd k c st kb cb n lo hi) (.next q ds) = some (.out j es)) : Runs (ctx [51] levelR_sp) Tabs levelR_L3_A (stateOf (levelR_L3_gs re fa fb fc fd k c st kb cb n lo hi (.next q ds))) (stateOf (levelR_L3_gs re fa fb fc fd k c st kb cb n lo hi (.out j es))) (levelR_L3_ax (.out j es)) ∧ (nxtOf (levelR_L3_gs re fa fb fc fd k c st kb cb n lo hi (.out j es)), lowGS (levelR_L3_gs re fa fb fc fd k c st kb cb n lo hi (.out j es))) = (levelR_L3_A.nx, levelR_L3_A.low) :=
  runs_of' (good true _ _) levelR_L3_ok (ax := levelR_L3_ax) (fun _ _ => rfl) (fun _ _ => axOf_end _) (levelR_L3_S_ok re fa fb fc fd k c st kb cb n lo hi) h
theorem levelR_L3_in0 (re fa fb fc fd : Int) (k : Nat) (c : List D) (st : Int) (kb : Nat) (cb : List D) (n lo hi : Int)  {es : List D} (h : runR (levelR_L3_S re fa fb fc fd k c st kb cb n lo hi) (.next 0 [iD ((IntKind.i64.wrap ((kb : Int) - (1 : Int)))), iD ((-1 : Int)), iD ((-1 : Int))]) = some (.out 0 es)) : LoopC (loopAt Try.prog 51 0) (levelR_L3_E re fa fb fc fd k c st kb cb n lo hi) 7 noFrame levelR_x3_0 es :=
  have r := levelR_L3_go re fa fb fc fd k c st kb cb n lo hi h
  loopin_as rfl (loop_in (l := levelR_L3_A) (E := (levelR_L3_E re fa fb fc fd k c st kb cb n lo hi)) (S := stateOf (levelR_L3_gs re fa fb fc fd k c st kb cb n lo hi (.next 0 [iD ((IntKind.i64.wrap ((kb : Int) - (1 : Int)))), iD ((-1 : Int)), iD ((-1 : Int))]))) (ns := nsOf (levelR_L3_gs re fa fb fc fd k c st kb cb n lo hi (.next 0 [iD ((IntKind.i64.wrap ((kb : Int) - (1 : Int)))), iD ((-1 : Int)), iD ((-1 : Int))]))) levelR_L3_ok r.1 r.2 (by kernel_rfl) (by kernel_rfl) (by kernel_rfl) (by kernel_rfl))
def levelR_M (re fa fb fc fd : Int) (k : Nat) (c : List D) (st : Int) (kb : Nat) (cb : List D) (n lo hi : Int) : Option D := bindL (runR (levelR_L3_S re fa fb fc fd k c st kb cb n lo hi) (.next 0 [iD ((IntKind.i64.wrap ((kb : Int) - (1 : Int)))), iD ((-1 : Int)), iD ((-1 : Int))])) fun j ds => (if j = 0 then pullD (α := Int × Int) (some (.tup ds)) (fun d => ((D.vi (D.at d 0)), (D.vi (D.at d 1)))) (fun (l0, l1) => .tup [iD l0, iD l1]) fun (l0, l1) => (some (.agg [iD l0, iD l1])) else none)
theorem levelR_M_ok (re fa fb fc fd : Int) (k : Nat) (c : List D) (st : Int) (kb : Nat) (cb : List D) (n lo hi : Int) {r : D} (h : levelR_M re fa fb fc fd k c st kb cb n lo hi = some r) : Con 51 [.agg [iD re, iD fa, iD fb, iD fc, iD fd, .list k c], .agg [iD st, .list kb cb], iD n, .agg [iD lo, iD hi]] r := by
  unfold levelR_M at h
  obtain ⟨j, ds, e1_, h2_⟩ := bindL_elim h
  by_cases j3_ : j = 0
  · have h6_ := (if_pos j3_).symm.trans h2_
    clear h2_
    subst j3_
    obtain ⟨⟨l0, l1⟩, e4_, h7_⟩ := pullD_elim h6_
    clear h6_
    obtain rfl := tup_inj e4_
    have k5_ := levelR_L3_in0 re fa fb fc fd k c st kb cb n lo hi e1_
    obtain rfl := Option.some.inj h7_
    exact con_pc (op := true) (I := [51]) (sp := levelR_sp) 3000 [] [.tup [iD (Int.ofNat 0), iD l0, iD l1]] [] [k_l k5_ [] [.tup [iD (Int.ofNat 0), iD l0, iD l1]] []] (by kernel_rfl)
  have h8_ := (if_neg j3_).symm.trans h2_
  clear h2_
  cases h8_
def m_51 (ds : List D) : Option D := pullD (α := Int × Int × Int × Int × Int × Nat × (List D) × Int × Nat × (List D) × Int × Int × Int) (some (.tup ds)) (fun d => ((D.vi (D.at (D.at d 0) 0)), (D.vi (D.at (D.at d 0) 1)), (D.vi (D.at (D.at d 0) 2)), (D.vi (D.at (D.at d 0) 3)), (D.vi (D.at (D.at d 0) 4)), (D.ln (D.at (D.at d 0) 5)), (D.lc (D.at (D.at d 0) 5)), (D.vi (D.at (D.at d 1) 0)), (D.ln (D.at (D.at d 1) 1)), (D.lc (D.at (D.at d 1) 1)), (D.vi (D.at d 2)), (D.vi (D.at (D.at d 3) 0)), (D.vi (D.at (D.at d 3) 1)))) (fun (re, fa, fb, fc, fd, k, c, st, kb, cb, n, lo, hi) => .tup [.agg [iD re, iD fa, iD fb, iD fc, iD fd, .list k c], .agg [iD st, .list kb cb], iD n, .agg [iD lo, iD hi]]) fun (re, fa, fb, fc, fd, k, c, st, kb, cb, n, lo, hi) => levelR_M re fa fb fc fd k c st kb cb n lo hi
theorem m_51_ok {ds : List D} {r : D} (h : m_51 ds = some r) : Con 51 ds r := by
  unfold m_51 at h
  obtain ⟨⟨re, fa, fb, fc, fd, k, c, st, kb, cb, n, lo, hi⟩, e0, h0⟩ := pullD_elim h
  obtain rfl := tup_inj e0
  exact levelR_M_ok re fa fb fc fd k c st kb cb n lo hi h0
theorem m_51_eq (re fa fb fc fd : Int) (k : Nat) (c : List D) (st : Int) (kb : Nat) (cb : List D) (n lo hi : Int) : m_51 [.agg [iD re, iD fa, iD fb, iD fc, iD fd, .list k c], .agg [iD st, .list kb cb], iD n, .agg [iD lo, iD hi]] = levelR_M re fa fb fc fd k c st kb cb n lo hi := pullD_some (re, fa, fb, fc, fd, k, c, st, kb, cb, n, lo, hi) rfl rfl
def halfR_x3_0 : LExit := ⟨some 0, [.cval 9 0, .cval 9 1], (10 :: (List.range' 16 33))⟩
def halfR_sp : List LSpec := [⟨52, 3, [halfR_x3_0]⟩]
def halfR_L3_E (re fa fb fc fd : Int) (k : Nat) (c : List D) (st : Int) (kb : Nat) (cb : List D) (n lo hi : Int)  : List AV × AHeap := ([.agg [.pure (.int .i64 re), .pure (.int .i64 fa), .pure (.int .i64 fb), .pure (.int .i64 fc), .pure (.int .i64 fd), .dsl 0], .agg [.pure (.int .i64 st), .dsl 1], .pure (.int .i64 n), .pure (.agg #[.int .i64 lo, .int .i64 hi]), .ptr 2 0, .ptr 3 0, .pure (.tuple #[]), .ptr 4 0, .ptr 5 0, .ptr 6 0, .pure (.int .i64 (IntKind.i64.wrap ((kb : Int) - (1 : Int)))), .pure (.agg #[.int .i64 (-1 : Int), .int .i64 (-1 : Int)]), .ptr 3 1, .dsl 1, .pure (.int .i64 (kb : Int)), .pure (.int .i64 (IntKind.i64.wrap ((kb : Int) - (1 : Int)))), .pure (.tuple #[]), .pure (.tuple #[]), .pure (.tuple #[]), .pure (.tuple #[]), .pure (.tuple #[]), .pure (.tuple #[]), .pure (.tuple #[]), .pure (.tuple #[]), .pure (.tuple #[]), .pure (.tuple #[]), .pure (.tuple #[]), .pure (.tuple #[]), .pure (.tuple #[]), .pure (.tuple #[]), .pure (.tuple #[]), .pure (.tuple #[]), .pure (.tuple #[]), .pure (.tuple #[]), .pure (.tuple #[]), .pure (.tuple #[]), .pure (.tuple #[]), .pure (.tuple #[]), .pure (.tuple #[]), .pure (.tuple #[]), .pure (.tuple #[]), .pure (.tuple #[]), .pure (.tuple #[]), .pure (.tuple #[]), .pure (.tuple #[]), .pure (.tuple #[]), .pure (.tuple #[]), .pure (.tuple #[]), .pure (.tuple #[]), .pure (.tuple #[])], [(6, { cells := [.pure (.int .i64 (-1 : Int)), .pure (.int .i64 (-1 : Int))], opn := none, kind := .cells }), (5, { cells := [.pure (.int .i64 (0 : Int)), .pure (.int .i64 (0 : Int))], opn := none, kind := .cells }), (4, { cells := [.pure (.int .i64 lo), .pure (.int .i64 hi)], opn := none, kind := .cells }), (3, { cells := [.pure (.int .i64 st), .dsl 1], opn := none, kind := .cells }), (2, { cells := [.pure (.int .i64 re), .pure (.int .i64 fa), .pure (.int .i64 fb), .pure (.int .i64 fc), .pure (.int .i64 fd), .dsl 0], opn := none, kind := .cells }), (1, { cells := [], opn := none, kind := .deep kb cb }), (0, { cells := [], opn := none, kind := .deep k c })])
def halfR_L3_A : LoopAt := ⟨52, loopAt Try.prog 52 0, 7, 43, 6, noFrame⟩
theorem halfR_L3_ok : (halfR_L3_A).OK := ⟨by show 7 ≤ 43; decide, by show 6 ≤ 7; decide, by kernel_rfl, rfl⟩
def halfR_L3_gs (re fa fb fc fd : Int) (k : Nat) (c : List D) (st : Int) (kb : Nat) (cb : List D) (n lo hi : Int)  : Go.Ev.Rd → Option GS
  | .next 0 ds => ghost [.val 10, .cval 9 0, .cval 9 1] (List.range' 16 33) (halfR_L3_E re fa fb fc fd k c st kb cb n lo hi).1 (halfR_L3_E re fa fb fc fd k c st kb cb n lo hi).2 7 ds
  | .out 0 ds => ghost halfR_x3_0.live halfR_x3_0.junk (halfR_L3_E re fa fb fc fd k c st kb cb n lo hi).1 (halfR_L3_E re fa fb fc fd k c st kb cb n lo hi).2 7 ds
  | _ => none
def halfR_L3_ex : Nat → Option Nat
  | 0 => halfR_x3_0.ex
  | _ => none
def halfR_L3_ax : Go.Ev.Rd → AX
  | .next _ _ => .normal
  | .out j _ => axOf (halfR_L3_ex j)
def halfR_L3_S0 (re fa fb fc fd : Int) (k : Nat) (c : List D) (st : Int) (kb : Nat) (cb : List D) (n lo hi : Int)  (ds : List D) : Option Go.Ev.Rd := pullD (α := Int × Int × Int) (some (.tup ds)) (fun d => ((D.vi (D.at d 0)), (D.vi (D.at d 1)), (D.vi (D.at d 2)))) (fun (s10, s9_0, s9_1) => .tup [iD s10, iD s9_0, iD s9_1]) fun (s10, s9_0, s9_1) => ((if s10 > n then guardP ((0 : Int) ≤ s10 ∧ s10.toNat < kb) (pullD (α := Int) (readD cb (s10.toNat * 1) 1 false) (fun d => ((D.vi d))) (fun v0 => iD v0) fun v0 => ((if IntKind.i64.wrap ((2 : Int) * IntKind.i64.wrap (v0 - re)) ≤ hi then pullD (α := Int) (readD cb (s10.toNat * 1) 1 false) (fun d => ((D.vi d))) (fun v1 => iD v1) fun v1 => ((if IntKind.i64.wrap ((2 : Int) * IntKind.i64.wrap (v1 + re)) ≤ lo then some (.next 0 [iD (IntKind.i64.wrap (s10 - (1 : Int))), iD s10, iD s10]) else some (.next 0 [iD (IntKind.i64.wrap (s10 - (1 : Int))), iD s10, iD s9_1]))) else pullD (α := Int) (readD cb (s10.toNat * 1) 1 false) (fun d => ((D.vi d))) (fun v2 => iD v2) fun v2 => ((if IntKind.i64.wrap ((2 : Int) * IntKind.i64.wrap (v2 + re)) ≤ lo then some (.next 0 [iD (IntKind.i64.wrap (s10 - (1 : Int))), iD s9_0, iD s10]) else some (.next 0 [iD (IntKind.i64.wrap (s10 - (1 : Int))), iD s9_0, iD s9_1])))))) else some (.out 0 [iD s9_0, iD s9_1])))
def halfR_L3_S (re fa fb fc fd : Int) (k : Nat) (c : List D) (st : Int) (kb : Nat) (cb : List D) (n lo hi : Int)  : Go.Ev.Rd → Option Go.Ev.Rd
  | .next 0 ds => halfR_L3_S0 re fa fb fc fd k c st kb cb n lo hi ds
  | _ => none
theorem halfR_L3_S_0 (re fa fb fc fd : Int) (k : Nat) (c : List D) (st : Int) (kb : Nat) (cb : List D) (n lo hi : Int)  (ds : List D) : halfR_L3_S re fa fb fc fd k c st kb cb n lo hi (.next 0 ds) = halfR_L3_S0 re fa fb fc fd k c st kb cb n lo hi ds := rfl
theorem halfR_L3_S_ok (re fa fb fc fd : Int) (k : Nat) (c : List D) (st : Int) (kb : Nat) (cb : List D) (n lo hi : Int)  : ∀ s_ t_, halfR_L3_S re fa fb fc fd k c st kb cb n lo hi s_ = some t_ → Step (ctx [52] halfR_sp) Tabs halfR_L3_A (stateOf (halfR_L3_gs re fa fb fc fd k c st kb cb n lo hi s_)) (stateOf (halfR_L3_gs re fa fb fc fd k c st kb cb n lo hi t_)) (halfR_L3_ax t_) ∧ EndOK halfR_L3_A.nx halfR_L3_A.low (halfR_L3_gs re fa fb fc fd k c st kb cb n lo hi) t_
  | .next 0 ds, t_, h => by
    have h_ : halfR_L3_S0 re fa fb fc fd k c st kb cb n lo hi ds = some t_ := h
    clear h
    unfold halfR_L3_S0 at h_
    obtain ⟨⟨s10, s9_0, s9_1⟩, e0, h0⟩ := pullD_elim h_
    clear h_
    obtain rfl := tup_inj e0
    by_cases b1_ : s10 > n
    · have h2_ := (if_pos b1_).symm.trans h0
      obtain ⟨f3_, h4_⟩ := guardP_elim h2_
      obtain ⟨v0, f5_, h6_⟩ := pullD_elim h4_
      replace f5_ := readD_elim f5_
      by_cases b7_ : IntKind.i64.wrap ((2 : Int) * IntKind.i64.wrap (v0 - re)) ≤ hi
      · have h8_ := (if_pos b7_).symm.trans h6_
        obtain ⟨v1, f9_, h10_⟩ := pullD_elim h8_
        replace f9_ := readD_elim f9_
        by_cases b11_ : IntKind.i64.wrap ((2 : Int) * IntKind.i64.wrap (v1 + re)) ≤ lo
        · have h12_ := (if_pos b11_).symm.trans h10_
          obtain rfl := Option.some.inj h12_
          exact ⟨step_pc 3000 (bT 3 []) [iD v0, iD v1] [c_d b1_, c_f f3_, c_f f5_, c_d b7_, c_f f3_, c_f f9_, c_d b11_] [] _ rfl (by kernel_rfl) (by kernel_rfl) (by kernel_rfl) (by kernel_rfl) (by kernel_rfl) (by kernel_rfl), trivial⟩
        have h12_ := (if_neg b11_).symm.trans h10_
        obtain rfl := Option.some.inj h12_
        exact ⟨step_pc 3000 (bT 2 (bF 1 [])) [iD v0, iD v1] [c_d b1_, c_f f3_, c_f f5_, c_d b7_, c_f f3_, c_f f9_, c_n b11_] [] _ rfl (by kernel_rfl) (by kernel_rfl) (by kernel_rfl) (by kernel_rfl) (by kernel_rfl) (by kernel_rfl), trivial⟩
      have h8_ := (if_neg b7_).symm.trans h6_
      obtain ⟨v2, f13_, h14_⟩ := pullD_elim h8_
      replace f13_ := readD_elim f13_
      by_cases b15_ : IntKind.i64.wrap ((2 : Int) * IntKind.i64.wrap (v2 + re)) ≤ lo
      · have h16_ := (if_pos b15_).symm.trans h14_
        obtain rfl := Option.some.inj h16_
        exact ⟨step_pc 3000 (bT 1 (bF 1 (bT 1 []))) [iD v0, iD v2] [c_d b1_, c_f f3_, c_f f5_, c_n b7_, c_f f3_, c_f f13_, c_d b15_] [] _ rfl (by kernel_rfl) (by kernel_rfl) (by kernel_rfl) (by kernel_rfl) (by kernel_rfl) (by kernel_rfl), trivial⟩
      have h16_ := (if_neg b15_).symm.trans h14_
      obtain rfl := Option.some.inj h16_
      exact ⟨step_pc 3000 (bT 1 (bF 2 [])) [iD v0, iD v2] [c_d b1_, c_f f3_, c_f f5_, c_n b7_, c_f f3_, c_f f13_, c_n b15_] [] _ rfl (by kernel_rfl) (by kernel_rfl) (by kernel_rfl) (by kernel_rfl) (by kernel_rfl) (by kernel_rfl), trivial⟩
    have h2_ := (if_neg b1_).symm.trans h0
    obtain rfl := Option.some.inj h2_
    exact ⟨step_pc 3000 (bF 1 []) [] [c_n b1_] [] _ rfl (by kernel_rfl) (by kernel_rfl) (by kernel_rfl) (by kernel_rfl) (by kernel_rfl) (by kernel_rfl), by kernel_rfl, by kernel_rfl⟩
  | .next (_ + 1) _, _, h => by cases h
  | .out _ _, _, h => by cases h
theorem halfR_L3_go (re fa fb fc fd : Int) (k : Nat) (c : List D) (st : Int) (kb : Nat) (cb : List D) (n lo hi : Int)  {q : Nat} {ds : List D} {j : Nat} {es : List D} (h : runR (halfR_L3_S re fa fb fc fd k c st kb cb n lo hi) (.next q ds) = some (.out j es)) : Runs (ctx [52] halfR_sp) Tabs halfR_L3_A (stateOf (halfR_L3_gs re fa fb fc fd k c st kb cb n lo hi (.next q ds))) (stateOf (halfR_L3_gs re fa fb fc fd k c st kb cb n lo hi (.out j es))) (halfR_L3_ax (.out j es)) ∧ (nxtOf (halfR_L3_gs re fa fb fc fd k c st kb cb n lo hi (.out j es)), lowGS (halfR_L3_gs re fa fb fc fd k c st kb cb n lo hi (.out j es))) = (halfR_L3_A.nx, halfR_L3_A.low) :=
  runs_of' (good true _ _) halfR_L3_ok (ax := halfR_L3_ax) (fun _ _ => rfl) (fun _ _ => axOf_end _) (halfR_L3_S_ok re fa fb fc fd k c st kb cb n lo hi) h
theorem halfR_L3_in0 (re fa fb fc fd : Int) (k : Nat) (c : List D) (st : Int) (kb : Nat) (cb : List D) (n lo hi : Int)  {es : List D} (h : runR (halfR_L3_S re fa fb fc fd k c st kb cb n lo hi) (.next 0 [iD ((IntKind.i64.wrap ((kb : Int) - (1 : Int)))), iD ((-1 : Int)), iD ((-1 : Int))]) = some (.out 0 es)) : LoopC (loopAt Try.prog 52 0) (halfR_L3_E re fa fb fc fd k c st kb cb n lo hi) 7 noFrame halfR_x3_0 es :=
  have r := halfR_L3_go re fa fb fc fd k c st kb cb n lo hi h
  loopin_as rfl (loop_in (l := halfR_L3_A) (E := (halfR_L3_E re fa fb fc fd k c st kb cb n lo hi)) (S := stateOf (halfR_L3_gs re fa fb fc fd k c st kb cb n lo hi (.next 0 [iD ((IntKind.i64.wrap ((kb : Int) - (1 : Int)))), iD ((-1 : Int)), iD ((-1 : Int))]))) (ns := nsOf (halfR_L3_gs re fa fb fc fd k c st kb cb n lo hi (.next 0 [iD ((IntKind.i64.wrap ((kb : Int) - (1 : Int)))), iD ((-1 : Int)), iD ((-1 : Int))]))) halfR_L3_ok r.1 r.2 (by kernel_rfl) (by kernel_rfl) (by kernel_rfl) (by kernel_rfl))
def halfR_M (re fa fb fc fd : Int) (k : Nat) (c : List D) (st : Int) (kb : Nat) (cb : List D) (n lo hi : Int) : Option D := bindL (runR (halfR_L3_S re fa fb fc fd k c st kb cb n lo hi) (.next 0 [iD ((IntKind.i64.wrap ((kb : Int) - (1 : Int)))), iD ((-1 : Int)), iD ((-1 : Int))])) fun j ds => (if j = 0 then pullD (α := Int × Int) (some (.tup ds)) (fun d => ((D.vi (D.at d 0)), (D.vi (D.at d 1)))) (fun (l0, l1) => .tup [iD l0, iD l1]) fun (l0, l1) => (some (.agg [iD l0, iD l1])) else none)
theorem halfR_M_ok (re fa fb fc fd : Int) (k : Nat) (c : List D) (st : Int) (kb : Nat) (cb : List D) (n lo hi : Int) {r : D} (h : halfR_M re fa fb fc fd k c st kb cb n lo hi = some r) : Con 52 [.agg [iD re, iD fa, iD fb, iD fc, iD fd, .list k c], .agg [iD st, .list kb cb], iD n, .agg [iD lo, iD hi]] r := by
  unfold halfR_M at h
  obtain ⟨j, ds, e1_, h2_⟩ := bindL_elim h
  by_cases j3_ : j = 0
  · have h6_ := (if_pos j3_).symm.trans h2_
    clear h2_
    subst j3_
    obtain ⟨⟨l0, l1⟩, e4_, h7_⟩ := pullD_elim h6_
    clear h6_
    obtain rfl := tup_inj e4_
    have k5_ := halfR_L3_in0 re fa fb fc fd k c st kb cb n lo hi e1_
    obtain rfl := Option.some.inj h7_
    exact con_pc (op := true) (I := [52]) (sp := halfR_sp) 3000 [] [.tup [iD (Int.ofNat 0), iD l0, iD l1]] [] [k_l k5_ [] [.tup [iD (Int.ofNat 0), iD l0, iD l1]] []] (by kernel_rfl)
  have h8_ := (if_neg j3_).symm.trans h2_
  clear h2_
  cases h8_
def m_52 (ds : List D) : Option D := pullD (α := Int × Int × Int × Int × Int × Nat × (List D) × Int × Nat × (List D) × Int × Int × Int) (some (.tup ds)) (fun d => ((D.vi (D.at (D.at d 0) 0)), (D.vi (D.at (D.at d 0) 1)), (D.vi (D.at (D.at d 0) 2)), (D.vi (D.at (D.at d 0) 3)), (D.vi (D.at (D.at d 0) 4)), (D.ln (D.at (D.at d 0) 5)), (D.lc (D.at (D.at d 0) 5)), (D.vi (D.at (D.at d 1) 0)), (D.ln (D.at (D.at d 1) 1)), (D.lc (D.at (D.at d 1) 1)), (D.vi (D.at d 2)), (D.vi (D.at (D.at d 3) 0)), (D.vi (D.at (D.at d 3) 1)))) (fun (re, fa, fb, fc, fd, k, c, st, kb, cb, n, lo, hi) => .tup [.agg [iD re, iD fa, iD fb, iD fc, iD fd, .list k c], .agg [iD st, .list kb cb], iD n, .agg [iD lo, iD hi]]) fun (re, fa, fb, fc, fd, k, c, st, kb, cb, n, lo, hi) => halfR_M re fa fb fc fd k c st kb cb n lo hi
theorem m_52_ok {ds : List D} {r : D} (h : m_52 ds = some r) : Con 52 ds r := by
  unfold m_52 at h
  obtain ⟨⟨re, fa, fb, fc, fd, k, c, st, kb, cb, n, lo, hi⟩, e0, h0⟩ := pullD_elim h
  obtain rfl := tup_inj e0
  exact halfR_M_ok re fa fb fc fd k c st kb cb n lo hi h0
theorem m_52_eq (re fa fb fc fd : Int) (k : Nat) (c : List D) (st : Int) (kb : Nat) (cb : List D) (n lo hi : Int) : m_52 [.agg [iD re, iD fa, iD fb, iD fc, iD fd, .list k c], .agg [iD st, .list kb cb], iD n, .agg [iD lo, iD hi]] = halfR_M re fa fb fc fd k c st kb cb n lo hi := pullD_some (re, fa, fb, fc, fd, k, c, st, kb, cb, n, lo, hi) rfl rfl
def figuresR_sp : List LSpec := []
def figuresR_M (re fa fb fc fd : Int) (k : Nat) (c : List D) (st : Int) (kb : Nat) (cb : List D) : Option D := pullD (α := Int) (m_17 [.agg [iD re, iD fa, iD fb, iD fc, iD fd, .list k c], .agg [iD st, .list kb cb]]) (fun d => ((D.vi d))) (fun r0 => iD r0) fun r0 => ((if r0 ≠ (0 : Int) then some (.tup [(shNL3_0 (0 : Int) (0 : Int) (0 : Int) (0 : Int) (0 : Int) (0 : Int) (0 : Int) (0 : Int) (0 : Int)), iD r0]) else pullD (α := Int × Int × Int) (m_18 [.agg [iD re, iD fa, iD fb, iD fc, iD fd, .list k c], .agg [iD st, .list kb cb]]) (fun d => ((D.vi (D.at d 0)), (D.vi (D.at (D.at d 1) 0)), (D.vi (D.at (D.at d 1) 1)))) (fun (r1, r2, r3) => .tup [iD r1, .agg [iD r2, iD r3]]) fun (r1, r2, r3) => ((if r2 ≤ (0 : Int) then some (.tup [(shNL3_0 (0 : Int) (0 : Int) (0 : Int) (0 : Int) (0 : Int) (0 : Int) (0 : Int) (0 : Int) (0 : Int)), iD (21 : Int)]) else pullD (α := Int × Int) (m_51 [.agg [iD re, iD fa, iD fb, iD fc, iD fd, .list k c], .agg [iD st, .list kb cb], iD (3 : Int), .agg [iD r2, iD r3]]) (fun d => ((D.vi (D.at d 0)), (D.vi (D.at d 1)))) (fun (r4, r5) => .agg [iD r4, iD r5]) fun (r4, r5) => (pullD (α := Int × Int) (m_51 [.agg [iD re, iD fa, iD fb, iD fc, iD fd, .list k c], .agg [iD st, .list kb cb], iD (9 : Int), .agg [iD r2, iD r3]]) (fun d => ((D.vi (D.at d 0)), (D.vi (D.at d 1)))) (fun (r6, r7) => .agg [iD r6, iD r7]) fun (r6, r7) => (pullD (α := Int × Int) (m_52 [.agg [iD re, iD fa, iD fb, iD fc, iD fd, .list k c], .agg [iD st, .list kb cb], iD r1, .agg [iD r2, iD r3]]) (fun d => ((D.vi (D.at d 0)), (D.vi (D.at d 1)))) (fun (r8, r9) => .agg [iD r8, iD r9]) fun (r8, r9) => ((if r5 < (0 : Int) then some (.tup [(shNL3_0 (0 : Int) (0 : Int) (0 : Int) (0 : Int) (0 : Int) (0 : Int) (0 : Int) (0 : Int) (0 : Int)), iD (12 : Int)]) else (if r7 < (0 : Int) then some (.tup [(shNL3_0 (0 : Int) (0 : Int) (0 : Int) (0 : Int) (0 : Int) (0 : Int) (0 : Int) (0 : Int) (0 : Int)), iD (12 : Int)]) else (if r9 < (0 : Int) then some (.tup [(shNL3_0 (0 : Int) (0 : Int) (0 : Int) (0 : Int) (0 : Int) (0 : Int) (0 : Int) (0 : Int) (0 : Int)), iD (12 : Int)]) else some (.tup [(shNL3_0 r1 r2 r3 r4 r5 r6 r7 r8 r9), iD (0 : Int)])))))))))))
theorem figuresR_M_ok (re fa fb fc fd : Int) (k : Nat) (c : List D) (st : Int) (kb : Nat) (cb : List D) {r : D} (h : figuresR_M re fa fb fc fd k c st kb cb = some r) : Con 16 [.agg [iD re, iD fa, iD fb, iD fc, iD fd, .list k c], .agg [iD st, .list kb cb]] r := by
  unfold figuresR_M at h
  obtain ⟨r0, f1_, h2_⟩ := pullD_elim h
  replace f1_ := m_17_ok f1_
  by_cases b3_ : r0 ≠ (0 : Int)
  · have h4_ := (if_pos b3_).symm.trans h2_
    obtain rfl := Option.some.inj h4_
    exact con_pc (op := true) (I := [16]) (sp := figuresR_sp) 3000 (bT 1 []) [iD r0] [c_b b3_] [k_c f1_] (by kernel_rfl)
  have h4_ := (if_neg b3_).symm.trans h2_
  have b5_ : r0 = (0 : Int) := by first | exact b3_ | simpa using b3_
  obtain ⟨⟨r1, r2, r3⟩, f6_, h7_⟩ := pullD_elim h4_
  replace f6_ := m_18_ok f6_
  by_cases b8_ : r2 ≤ (0 : Int)
  · have h9_ := (if_pos b8_).symm.trans h7_
    obtain rfl := Option.some.inj h9_
    exact con_pc (op := true) (I := [16]) (sp := figuresR_sp) 3000 (bF 1 (bT 1 [])) [iD r0, .tup [iD r1, .agg [iD r2, iD r3]]] [c_bn b5_, c_d b8_] [k_c f1_, k_c f6_] (by kernel_rfl)
  have h9_ := (if_neg b8_).symm.trans h7_
  obtain ⟨⟨r4, r5⟩, f10_, h11_⟩ := pullD_elim h9_
  replace f10_ := m_51_ok f10_
  obtain ⟨⟨r6, r7⟩, f12_, h13_⟩ := pullD_elim h11_
  replace f12_ := m_51_ok f12_
  obtain ⟨⟨r8, r9⟩, f14_, h15_⟩ := pullD_elim h13_
  replace f14_ := m_52_ok f14_
  by_cases b16_ : r5 < (0 : Int)
  · have h17_ := (if_pos b16_).symm.trans h15_
    obtain rfl := Option.some.inj h17_
    exact con_pc (op := true) (I := [16]) (sp := figuresR_sp) 3000 (bF 2 (bT 11 [])) [iD r0, .tup [iD r1, .agg [iD r2, iD r3]], .agg [iD r4, iD r5], .agg [iD r6, iD r7], .agg [iD r8, iD r9]] [c_bn b5_, c_n b8_, c_d b16_, c_d b16_, c_d b16_, c_d b16_, c_d b16_, c_T, c_T, c_T, c_T, c_T, c_T] [k_c f1_, k_c f6_, k_c f10_, k_c f12_, k_c f14_] (by kernel_rfl)
  have h17_ := (if_neg b16_).symm.trans h15_
  by_cases b18_ : r7 < (0 : Int)
  · have h19_ := (if_pos b18_).symm.trans h17_
    obtain rfl := Option.some.inj h19_
    exact con_pc (op := true) (I := [16]) (sp := figuresR_sp) 3000 (bF 7 (bT 6 [])) [iD r0, .tup [iD r1, .agg [iD r2, iD r3]], .agg [iD r4, iD r5], .agg [iD r6, iD r7], .agg [iD r8, iD r9]] [c_bn b5_, c_n b8_, c_n b16_, c_n b16_, c_n b16_, c_n b16_, c_n b16_, c_d b18_, c_d b18_, c_d b18_, c_d b18_, c_d b18_, c_T] [k_c f1_, k_c f6_, k_c f10_, k_c f12_, k_c f14_] (by kernel_rfl)
  have h19_ := (if_neg b18_).symm.trans h17_
  by_cases b20_ : r9 < (0 : Int)
  · have h21_ := (if_pos b20_).symm.trans h19_
    obtain rfl := Option.some.inj h21_
    exact con_pc (op := true) (I := [16]) (sp := figuresR_sp) 3000 (bF 12 (bT 1 [])) [iD r0, .tup [iD r1, .agg [iD r2, iD r3]], .agg [iD r4, iD r5], .agg [iD r6, iD r7], .agg [iD r8, iD r9]] [c_bn b5_, c_n b8_, c_n b16_, c_n b16_, c_n b16_, c_n b16_, c_n b16_, c_n b18_, c_n b18_, c_n b18_, c_n b18_, c_n b18_, c_d b20_] [k_c f1_, k_c f6_, k_c f10_, k_c f12_, k_c f14_] (by kernel_rfl)
  have h21_ := (if_neg b20_).symm.trans h19_
  obtain rfl := Option.some.inj h21_
  exact con_pc (op := true) (I := [16]) (sp := figuresR_sp) 3000 (bF 13 []) [iD r0, .tup [iD r1, .agg [iD r2, iD r3]], .agg [iD r4, iD r5], .agg [iD r6, iD r7], .agg [iD r8, iD r9]] [c_bn b5_, c_n b8_, c_n b16_, c_n b16_, c_n b16_, c_n b16_, c_n b16_, c_n b18_, c_n b18_, c_n b18_, c_n b18_, c_n b18_, c_n b20_] [k_c f1_, k_c f6_, k_c f10_, k_c f12_, k_c f14_] (by kernel_rfl)
def m_16 (ds : List D) : Option D := pullD (α := Int × Int × Int × Int × Int × Nat × (List D) × Int × Nat × (List D)) (some (.tup ds)) (fun d => ((D.vi (D.at (D.at d 0) 0)), (D.vi (D.at (D.at d 0) 1)), (D.vi (D.at (D.at d 0) 2)), (D.vi (D.at (D.at d 0) 3)), (D.vi (D.at (D.at d 0) 4)), (D.ln (D.at (D.at d 0) 5)), (D.lc (D.at (D.at d 0) 5)), (D.vi (D.at (D.at d 1) 0)), (D.ln (D.at (D.at d 1) 1)), (D.lc (D.at (D.at d 1) 1)))) (fun (re, fa, fb, fc, fd, k, c, st, kb, cb) => .tup [.agg [iD re, iD fa, iD fb, iD fc, iD fd, .list k c], .agg [iD st, .list kb cb]]) fun (re, fa, fb, fc, fd, k, c, st, kb, cb) => figuresR_M re fa fb fc fd k c st kb cb
theorem m_16_ok {ds : List D} {r : D} (h : m_16 ds = some r) : Con 16 ds r := by
  unfold m_16 at h
  obtain ⟨⟨re, fa, fb, fc, fd, k, c, st, kb, cb⟩, e0, h0⟩ := pullD_elim h
  obtain rfl := tup_inj e0
  exact figuresR_M_ok re fa fb fc fd k c st kb cb h0
theorem m_16_eq (re fa fb fc fd : Int) (k : Nat) (c : List D) (st : Int) (kb : Nat) (cb : List D) : m_16 [.agg [iD re, iD fa, iD fb, iD fc, iD fd, .list k c], .agg [iD st, .list kb cb]] = figuresR_M re fa fb fc fd k c st kb cb := pullD_some (re, fa, fb, fc, fd, k, c, st, kb, cb) rfl rfl
end
end Go.Proofs.Ytmohaohdbklkeaa
namespace Go.Proofs.Ytmohaohdbklkeaa
open Go.Ev Go.RowKit
set_option maxRecDepth 100000
set_option maxHeartbeats 8000000
set_option linter.all false
noncomputable section
abbrev shNL4_0 (a0 : Int) (a1 : Int) (a2 : Int) (a3 : Int) (a4 : Int) (a5 : Int) (a6 : Int) (a7 : Int) (a8 : Int) : D := .agg [.one (.int .i64 a0), .one (.int .i64 a1), .one (.int .i64 a2), .one (.int .i64 a3), .one (.int .i64 a4), .one (.int .i64 a5), .one (.int .i64 a6), .one (.int .i64 a7), .one (.int .i64 a8)]
def shNL4_0P (d : D) : Int × Int × Int × Int × Int × Int × Int × Int × Int := (D.vi (D.at d 0), D.vi (D.at d 1), D.vi (D.at d 2), D.vi (D.at d 3), D.vi (D.at d 4), D.vi (D.at d 5), D.vi (D.at d 6), D.vi (D.at d 7), D.vi (D.at d 8))
def law3_sp : List LSpec := []
def law3_M (re fa fb fc fd : Int) (k : Nat) (c : List D) (st : Int) (kb : Nat) (cb : List D) : Option D := pullD (α := Bool) (m_9 []) (fun d => ((D.vb d))) (fun r0 => .one (.bool r0)) fun r0 => ((if r0 = false then some (.one (.bool false)) else pullD (α := Bool) (m_10 [.agg [iD st, .list kb cb]]) (fun d => ((D.vb d))) (fun r1 => .one (.bool r1)) fun r1 => ((if r1 = false then some (.one (.bool true)) else pullD (α := Bool) (m_11 [.agg [iD re, iD fa, iD fb, iD fc, iD fd, .list k c]]) (fun d => ((D.vb d))) (fun r2 => .one (.bool r2)) fun r2 => ((if r2 = false then some (.one (.bool true)) else pullD (α := Int × Int × Int × Int × Int × Nat × (List D)) (m_13 [.agg [iD re, iD fa, iD fb, iD fc, iD fd, .list k c]]) (fun d => ((D.vi (D.at d 0)), (D.vi (D.at d 1)), (D.vi (D.at d 2)), (D.vi (D.at d 3)), (D.vi (D.at d 4)), (D.ln (D.at d 5)), (D.lc (D.at d 5)))) (fun (r3, r4, r5, r6, r7, k8, c9) => .agg [iD r3, iD r4, iD r5, iD r6, iD r7, .list k8 c9]) fun (r3, r4, r5, r6, r7, k8, c9) => (pullD (α := Int × Nat × (List D)) (m_14 [.agg [iD st, .list kb cb]]) (fun d => ((D.vi (D.at d 0)), (D.ln (D.at d 1)), (D.lc (D.at d 1)))) (fun (r10, k11, c12) => .agg [iD r10, .list k11 c12]) fun (r10, k11, c12) => (pullD (α := Int × Int × Int × Int) (m_12 [.agg [iD r3, iD r4, iD r5, iD r6, iD r7, .list k8 c9], .agg [iD r10, .list k11 c12]]) (fun d => ((D.vi (D.at d 0)), (D.vi (D.at (D.at d 1) 0)), (D.vi (D.at (D.at d 1) 1)), (D.vi (D.at d 2)))) (fun (r13, r14, r15, r16) => .tup [iD r13, .agg [iD r14, iD r15], iD r16]) fun (r13, r14, r15, r16) => (pullD (α := Int × Int × Int × Int × Int × Nat × (List D)) (m_13 [.agg [iD re, iD fa, iD fb, iD fc, iD fd, .list k c]]) (fun d => ((D.vi (D.at d 0)), (D.vi (D.at d 1)), (D.vi (D.at d 2)), (D.vi (D.at d 3)), (D.vi (D.at d 4)), (D.ln (D.at d 5)), (D.lc (D.at d 5)))) (fun (r17, r18, r19, r20, r21, k22, c23) => .agg [iD r17, iD r18, iD r19, iD r20, iD r21, .list k22 c23]) fun (r17, r18, r19, r20, r21, k22, c23) => (pullD (α := Int × Nat × (List D)) (m_14 [.agg [iD st, .list kb cb]]) (fun d => ((D.vi (D.at d 0)), (D.ln (D.at d 1)), (D.lc (D.at d 1)))) (fun (r24, k25, c26) => .agg [iD r24, .list k25 c26]) fun (r24, k25, c26) => (pullD (α := Int × Int × Int × Int × Int × Int × Int × Int × Int × Int) (m_15 [.agg [iD r17, iD r18, iD r19, iD r20, iD r21, .list k22 c23], .agg [iD r24, .list k25 c26]]) (fun d => ((D.vi (D.at (D.at d 0) 0)), (D.vi (D.at (D.at d 0) 1)), (D.vi (D.at (D.at d 0) 2)), (D.vi (D.at (D.at d 0) 3)), (D.vi (D.at (D.at d 0) 4)), (D.vi (D.at (D.at d 0) 5)), (D.vi (D.at (D.at d 0) 6)), (D.vi (D.at (D.at d 0) 7)), (D.vi (D.at (D.at d 0) 8)), (D.vi (D.at d 1)))) (fun (r27, r28, r29, r30, r31, r32, r33, r34, r35, r36) => .tup [(shNL4_0 r27 r28 r29 r30 r31 r32 r33 r34 r35), iD r36]) fun (r27, r28, r29, r30, r31, r32, r33, r34, r35, r36) => (pullD (α := Int × Int × Int × Int × Int × Int × Int × Int × Int × Int) (m_16 [.agg [iD re, iD fa, iD fb, iD fc, iD fd, .list k c], .agg [iD st, .list kb cb]]) (fun d => ((D.vi (D.at (D.at d 0) 0)), (D.vi (D.at (D.at d 0) 1)), (D.vi (D.at (D.at d 0) 2)), (D.vi (D.at (D.at d 0) 3)), (D.vi (D.at (D.at d 0) 4)), (D.vi (D.at (D.at d 0) 5)), (D.vi (D.at (D.at d 0) 6)), (D.vi (D.at (D.at d 0) 7)), (D.vi (D.at (D.at d 0) 8)), (D.vi (D.at d 1)))) (fun (r37, r38, r39, r40, r41, r42, r43, r44, r45, r46) => .tup [(shNL4_0 r37 r38 r39 r40 r41 r42 r43 r44 r45), iD r46]) fun (r37, r38, r39, r40, r41, r42, r43, r44, r45, r46) => ((if r36 ≠ r46 then some (.one (.bool false)) else (if (!(r27 == r37 && (r28 == r38 && (r29 == r39 && true) && (r30 == r40 && (r31 == r41 && true) && (r32 == r42 && (r33 == r43 && true) && (r34 == r44 && (r35 == r45 && true) && true)))))) = true then some (.one (.bool false)) else pullD (α := Int) (m_17 [.agg [iD re, iD fa, iD fb, iD fc, iD fd, .list k c], .agg [iD st, .list kb cb]]) (fun d => ((D.vi d))) (fun r47 => iD r47) fun r47 => ((if r47 ≠ (0 : Int) then (if r16 = r47 then (if r13 = (0 : Int) then some (.one (.bool (r14 == (0 : Int) && (r15 == (0 : Int) && true)))) else some (.one (.bool false))) else some (.one (.bool false))) else pullD (α := Int × Int × Int) (m_18 [.agg [iD re, iD fa, iD fb, iD fc, iD fd, .list k c], .agg [iD st, .list kb cb]]) (fun d => ((D.vi (D.at d 0)), (D.vi (D.at (D.at d 1) 0)), (D.vi (D.at (D.at d 1) 1)))) (fun (r48, r49, r50) => .tup [iD r48, .agg [iD r49, iD r50]]) fun (r48, r49, r50) => ((if r16 = (0 : Int) then (if r13 = r48 then some (.one (.bool (r14 == r49 && (r15 == r50 && true)))) else some (.one (.bool false))) else some (.one (.bool false)))))))))))))))))))))
theorem law3_M_ok (re fa fb fc fd : Int) (k : Nat) (c : List D) (st : Int) (kb : Nat) (cb : List D) {r : D} (h : law3_M re fa fb fc fd k c st kb cb = some r) : Con 3 [.agg [iD re, iD fa, iD fb, iD fc, iD fd, .list k c], .agg [iD st, .list kb cb]] r := by
  unfold law3_M at h
  obtain ⟨r0, f1_, h2_⟩ := pullD_elim h
  replace f1_ := m_9_ok f1_
  by_cases b3_ : r0 = false
  · have h4_ := (if_pos b3_).symm.trans h2_
    obtain rfl := Option.some.inj h4_
    exact con_pc (op := true) (I := [3]) (sp := law3_sp) 3000 (bT 1 []) [.one (.bool r0)] [c_no b3_] [k_c f1_] (by kernel_rfl)
  have h4_ := (if_neg b3_).symm.trans h2_
  have b5_ : r0 = true := by first | exact b3_ | simpa using b3_
  obtain ⟨r1, f6_, h7_⟩ := pullD_elim h4_
  replace f6_ := m_10_ok f6_
  by_cases b8_ : r1 = false
  · have h9_ := (if_pos b8_).symm.trans h7_
    obtain rfl := Option.some.inj h9_
    exact con_pc (op := true) (I := [3]) (sp := law3_sp) 3000 (bF 1 (bT 5 [])) [.one (.bool r0), .one (.bool r1)] [c_nn b5_, c_no b8_, c_no b8_, c_no b8_, c_no b8_, c_T] [k_c f1_, k_c f6_] (by kernel_rfl)
  have h9_ := (if_neg b8_).symm.trans h7_
  have b10_ : r1 = true := by first | exact b8_ | simpa using b8_
  obtain ⟨r2, f11_, h12_⟩ := pullD_elim h9_
  replace f11_ := m_11_ok f11_
  by_cases b13_ : r2 = false
  · have h14_ := (if_pos b13_).symm.trans h12_
    obtain rfl := Option.some.inj h14_
    exact con_pc (op := true) (I := [3]) (sp := law3_sp) 3000 (bF 5 (bT 1 [])) [.one (.bool r0), .one (.bool r1), .one (.bool r2)] [c_nn b5_, c_nn b10_, c_nn b10_, c_nn b10_, c_nn b10_, c_no b13_] [k_c f1_, k_c f6_, k_c f11_] (by kernel_rfl)
  have h14_ := (if_neg b13_).symm.trans h12_
  have b15_ : r2 = true := by first | exact b13_ | simpa using b13_
  obtain ⟨⟨r3, r4, r5, r6, r7, k8, c9⟩, f16_, h17_⟩ := pullD_elim h14_
  replace f16_ := m_13_ok f16_
  obtain ⟨⟨r10, k11, c12⟩, f18_, h19_⟩ := pullD_elim h17_
  replace f18_ := m_14_ok f18_
  obtain ⟨⟨r13, r14, r15, r16⟩, f20_, h21_⟩ := pullD_elim h19_
  replace f20_ := m_12_ok f20_
  obtain ⟨⟨r17, r18, r19, r20, r21, k22, c23⟩, f22_, h23_⟩ := pullD_elim h21_
  replace f22_ := m_13_ok f22_
  obtain ⟨⟨r24, k25, c26⟩, f24_, h25_⟩ := pullD_elim h23_
  replace f24_ := m_14_ok f24_
  obtain ⟨⟨r27, r28, r29, r30, r31, r32, r33, r34, r35, r36⟩, f26_, h27_⟩ := pullD_elim h25_
  replace f26_ := m_15_ok f26_
  obtain ⟨⟨r37, r38, r39, r40, r41, r42, r43, r44, r45, r46⟩, f28_, h29_⟩ := pullD_elim h27_
  replace f28_ := m_16_ok f28_
  by_cases b30_ : r36 ≠ r46
  · have h31_ := (if_pos b30_).symm.trans h29_
    obtain rfl := Option.some.inj h31_
    exact con_pc (op := true) (I := [3]) (sp := law3_sp) 3000 (bF 6 (bT 5 [])) [.one (.bool r0), .one (.bool r1), .one (.bool r2), .agg [iD r3, iD r4, iD r5, iD r6, iD r7, .list k8 c9], .agg [iD r10, .list k11 c12], .tup [iD r13, .agg [iD r14, iD r15], iD r16], .agg [iD r17, iD r18, iD r19, iD r20, iD r21, .list k22 c23], .agg [iD r24, .list k25 c26], .tup [(shNL4_0 r27 r28 r29 r30 r31 r32 r33 r34 r35), iD r36], .tup [(shNL4_0 r37 r38 r39 r40 r41 r42 r43 r44 r45), iD r46]] [c_nn b5_, c_nn b10_, c_nn b10_, c_nn b10_, c_nn b10_, c_nn b15_, c_b b30_, c_b b30_, c_b b30_, c_b b30_, c_T] [k_c f1_, k_c f6_, k_c f11_, k_c f16_, k_c f18_, k_c f20_, k_c f22_, k_c f24_, k_c f26_, k_c f28_] (by kernel_rfl)
  have h31_ := (if_neg b30_).symm.trans h29_
  have b32_ : r36 = r46 := by first | exact b30_ | simpa using b30_
  by_cases b33_ : (!(r27 == r37 && (r28 == r38 && (r29 == r39 && true) && (r30 == r40 && (r31 == r41 && true) && (r32 == r42 && (r33 == r43 && true) && (r34 == r44 && (r35 == r45 && true) && true)))))) = true
  · have h34_ := (if_pos b33_).symm.trans h31_
    obtain rfl := Option.some.inj h34_
    exact con_pc (op := true) (I := [3]) (sp := law3_sp) 3000 (bF 10 (bT 1 [])) [.one (.bool r0), .one (.bool r1), .one (.bool r2), .agg [iD r3, iD r4, iD r5, iD r6, iD r7, .list k8 c9], .agg [iD r10, .list k11 c12], .tup [iD r13, .agg [iD r14, iD r15], iD r16], .agg [iD r17, iD r18, iD r19, iD r20, iD r21, .list k22 c23], .agg [iD r24, .list k25 c26], .tup [(shNL4_0 r27 r28 r29 r30 r31 r32 r33 r34 r35), iD r36], .tup [(shNL4_0 r37 r38 r39 r40 r41 r42 r43 r44 r45), iD r46]] [c_nn b5_, c_nn b10_, c_nn b10_, c_nn b10_, c_nn b10_, c_nn b15_, c_bn b32_, c_bn b32_, c_bn b32_, c_bn b32_, c_q b33_] [k_c f1_, k_c f6_, k_c f11_, k_c f16_, k_c f18_, k_c f20_, k_c f22_, k_c f24_, k_c f26_, k_c f28_] (by kernel_rfl)
  have h34_ := (if_neg b33_).symm.trans h31_
  have b35_ : (!(r27 == r37 && (r28 == r38 && (r29 == r39 && true) && (r30 == r40 && (r31 == r41 && true) && (r32 == r42 && (r33 == r43 && true) && (r34 == r44 && (r35 == r45 && true) && true)))))) = false := by first | exact b33_ | simpa using b33_
  obtain ⟨r47, f36_, h37_⟩ := pullD_elim h34_
  replace f36_ := m_17_ok f36_
  by_cases b38_ : r47 ≠ (0 : Int)
  · have h39_ := (if_pos b38_).symm.trans h37_
    by_cases b40_ : r16 = r47
    · have h41_ := (if_pos b40_).symm.trans h39_
      by_cases b42_ : r13 = (0 : Int)
      · have h43_ := (if_pos b42_).symm.trans h41_
        obtain rfl := Option.some.inj h43_
        exact con_pc (op := true) (I := [3]) (sp := law3_sp) 3000 (bF 11 (bT 8 [])) [.one (.bool r0), .one (.bool r1), .one (.bool r2), .agg [iD r3, iD r4, iD r5, iD r6, iD r7, .list k8 c9], .agg [iD r10, .list k11 c12], .tup [iD r13, .agg [iD r14, iD r15], iD r16], .agg [iD r17, iD r18, iD r19, iD r20, iD r21, .list k22 c23], .agg [iD r24, .list k25 c26], .tup [(shNL4_0 r27 r28 r29 r30 r31 r32 r33 r34 r35), iD r36], .tup [(shNL4_0 r37 r38 r39 r40 r41 r42 r43 r44 r45), iD r46], iD r47] [c_nn b5_, c_nn b10_, c_nn b10_, c_nn b10_, c_nn b10_, c_nn b15_, c_bn b32_, c_bn b32_, c_bn b32_, c_bn b32_, c_q b35_, c_b b38_, c_e b40_, c_e b40_, c_e b40_, c_e b42_, c_e b42_, c_e b42_, c_e b42_] [k_c f1_, k_c f6_, k_c f11_, k_c f16_, k_c f18_, k_c f20_, k_c f22_, k_c f24_, k_c f26_, k_c f28_, k_c f36_] (by kernel_rfl)
      have h43_ := (if_neg b42_).symm.trans h41_
      have b44_ : r13 ≠ (0 : Int) := by first | exact b42_ | simpa using b42_
      obtain rfl := Option.some.inj h43_
      exact con_pc (op := true) (I := [3]) (sp := law3_sp) 3000 (bF 11 (bT 4 (bF 4 []))) [.one (.bool r0), .one (.bool r1), .one (.bool r2), .agg [iD r3, iD r4, iD r5, iD r6, iD r7, .list k8 c9], .agg [iD r10, .list k11 c12], .tup [iD r13, .agg [iD r14, iD r15], iD r16], .agg [iD r17, iD r18, iD r19, iD r20, iD r21, .list k22 c23], .agg [iD r24, .list k25 c26], .tup [(shNL4_0 r27 r28 r29 r30 r31 r32 r33 r34 r35), iD r36], .tup [(shNL4_0 r37 r38 r39 r40 r41 r42 r43 r44 r45), iD r46], iD r47] [c_nn b5_, c_nn b10_, c_nn b10_, c_nn b10_, c_nn b10_, c_nn b15_, c_bn b32_, c_bn b32_, c_bn b32_, c_bn b32_, c_q b35_, c_b b38_, c_e b40_, c_e b40_, c_e b40_, c_en b44_, c_en b44_, c_en b44_, c_en b44_] [k_c f1_, k_c f6_, k_c f11_, k_c f16_, k_c f18_, k_c f20_, k_c f22_, k_c f24_, k_c f26_, k_c f28_, k_c f36_] (by kernel_rfl)
    have h41_ := (if_neg b40_).symm.trans h39_
    have b45_ : r16 ≠ r47 := by first | exact b40_ | simpa using b40_
    obtain rfl := Option.some.inj h41_
    exact con_pc (op := true) (I := [3]) (sp := law3_sp) 3000 (bF 11 (bT 1 (bF 7 []))) [.one (.bool r0), .one (.bool r1), .one (.bool r2), .agg [iD r3, iD r4, iD r5, iD r6, iD r7, .list k8 c9], .agg [iD r10, .list k11 c12], .tup [iD r13, .agg [iD r14, iD r15], iD r16], .agg [iD r17, iD r18, iD r19, iD r20, iD r21, .list k22 c23], .agg [iD r24, .list k25 c26], .tup [(shNL4_0 r27 r28 r29 r30 r31 r32 r33 r34 r35), iD r36], .tup [(shNL4_0 r37 r38 r39 r40 r41 r42 r43 r44 r45), iD r46], iD r47] [c_nn b5_, c_nn b10_, c_nn b10_, c_nn b10_, c_nn b10_, c_nn b15_, c_bn b32_, c_bn b32_, c_bn b32_, c_bn b32_, c_q b35_, c_b b38_, c_en b45_, c_en b45_, c_en b45_, c_F, c_F, c_F, c_F] [k_c f1_, k_c f6_, k_c f11_, k_c f16_, k_c f18_, k_c f20_, k_c f22_, k_c f24_, k_c f26_, k_c f28_, k_c f36_] (by kernel_rfl)
  have h39_ := (if_neg b38_).symm.trans h37_
  have b46_ : r47 = (0 : Int) := by first | exact b38_ | simpa using b38_
  obtain ⟨⟨r48, r49, r50⟩, f47_, h48_⟩ := pullD_elim h39_
  replace f47_ := m_18_ok f47_
  by_cases b49_ : r16 = (0 : Int)
  · have h50_ := (if_pos b49_).symm.trans h48_
    by_cases b51_ : r13 = r48
    · have h52_ := (if_pos b51_).symm.trans h50_
      obtain rfl := Option.some.inj h52_
      exact con_pc (op := true) (I := [3]) (sp := law3_sp) 3000 (bF 12 (bT 8 [])) [.one (.bool r0), .one (.bool r1), .one (.bool r2), .agg [iD r3, iD r4, iD r5, iD r6, iD r7, .list k8 c9], .agg [iD r10, .list k11 c12], .tup [iD r13, .agg [iD r14, iD r15], iD r16], .agg [iD r17, iD r18, iD r19, iD r20, iD r21, .list k22 c23], .agg [iD r24, .list k25 c26], .tup [(shNL4_0 r27 r28 r29 r30 r31 r32 r33 r34 r35), iD r36], .tup [(shNL4_0 r37 r38 r39 r40 r41 r42 r43 r44 r45), iD r46], iD r47, .tup [iD r48, .agg [iD r49, iD r50]]] [c_nn b5_, c_nn b10_, c_nn b10_, c_nn b10_, c_nn b10_, c_nn b15_, c_bn b32_, c_bn b32_, c_bn b32_, c_bn b32_, c_q b35_, c_bn b46_, c_e b49_, c_e b49_, c_e b49_, c_e b49_, c_e b51_, c_e b51_, c_e b51_, c_e b51_] [k_c f1_, k_c f6_, k_c f11_, k_c f16_, k_c f18_, k_c f20_, k_c f22_, k_c f24_, k_c f26_, k_c f28_, k_c f36_, k_c f47_] (by kernel_rfl)
    have h52_ := (if_neg b51_).symm.trans h50_
    have b53_ : r13 ≠ r48 := by first | exact b51_ | simpa using b51_
    obtain rfl := Option.some.inj h52_
    exact con_pc (op := true) (I := [3]) (sp := law3_sp) 3000 (bF 12 (bT 4 (bF 4 []))) [.one (.bool r0), .one (.bool r1), .one (.bool r2), .agg [iD r3, iD r4, iD r5, iD r6, iD r7, .list k8 c9], .agg [iD r10, .list k11 c12], .tup [iD r13, .agg [iD r14, iD r15], iD r16], .agg [iD r17, iD r18, iD r19, iD r20, iD r21, .list k22 c23], .agg [iD r24, .list k25 c26], .tup [(shNL4_0 r27 r28 r29 r30 r31 r32 r33 r34 r35), iD r36], .tup [(shNL4_0 r37 r38 r39 r40 r41 r42 r43 r44 r45), iD r46], iD r47, .tup [iD r48, .agg [iD r49, iD r50]]] [c_nn b5_, c_nn b10_, c_nn b10_, c_nn b10_, c_nn b10_, c_nn b15_, c_bn b32_, c_bn b32_, c_bn b32_, c_bn b32_, c_q b35_, c_bn b46_, c_e b49_, c_e b49_, c_e b49_, c_e b49_, c_en b53_, c_en b53_, c_en b53_, c_en b53_] [k_c f1_, k_c f6_, k_c f11_, k_c f16_, k_c f18_, k_c f20_, k_c f22_, k_c f24_, k_c f26_, k_c f28_, k_c f36_, k_c f47_] (by kernel_rfl)
  have h50_ := (if_neg b49_).symm.trans h48_
  have b54_ : r16 ≠ (0 : Int) := by first | exact b49_ | simpa using b49_
  obtain rfl := Option.some.inj h50_
  exact con_pc (op := true) (I := [3]) (sp := law3_sp) 3000 (bF 20 []) [.one (.bool r0), .one (.bool r1), .one (.bool r2), .agg [iD r3, iD r4, iD r5, iD r6, iD r7, .list k8 c9], .agg [iD r10, .list k11 c12], .tup [iD r13, .agg [iD r14, iD r15], iD r16], .agg [iD r17, iD r18, iD r19, iD r20, iD r21, .list k22 c23], .agg [iD r24, .list k25 c26], .tup [(shNL4_0 r27 r28 r29 r30 r31 r32 r33 r34 r35), iD r36], .tup [(shNL4_0 r37 r38 r39 r40 r41 r42 r43 r44 r45), iD r46], iD r47, .tup [iD r48, .agg [iD r49, iD r50]]] [c_nn b5_, c_nn b10_, c_nn b10_, c_nn b10_, c_nn b10_, c_nn b15_, c_bn b32_, c_bn b32_, c_bn b32_, c_bn b32_, c_q b35_, c_bn b46_, c_en b54_, c_en b54_, c_en b54_, c_en b54_, c_F, c_F, c_F, c_F] [k_c f1_, k_c f6_, k_c f11_, k_c f16_, k_c f18_, k_c f20_, k_c f22_, k_c f24_, k_c f26_, k_c f28_, k_c f36_, k_c f47_] (by kernel_rfl)
def m_3 (ds : List D) : Option D := pullD (α := Int × Int × Int × Int × Int × Nat × (List D) × Int × Nat × (List D)) (some (.tup ds)) (fun d => ((D.vi (D.at (D.at d 0) 0)), (D.vi (D.at (D.at d 0) 1)), (D.vi (D.at (D.at d 0) 2)), (D.vi (D.at (D.at d 0) 3)), (D.vi (D.at (D.at d 0) 4)), (D.ln (D.at (D.at d 0) 5)), (D.lc (D.at (D.at d 0) 5)), (D.vi (D.at (D.at d 1) 0)), (D.ln (D.at (D.at d 1) 1)), (D.lc (D.at (D.at d 1) 1)))) (fun (re, fa, fb, fc, fd, k, c, st, kb, cb) => .tup [.agg [iD re, iD fa, iD fb, iD fc, iD fd, .list k c], .agg [iD st, .list kb cb]]) fun (re, fa, fb, fc, fd, k, c, st, kb, cb) => law3_M re fa fb fc fd k c st kb cb
theorem m_3_ok {ds : List D} {r : D} (h : m_3 ds = some r) : Con 3 ds r := by
  unfold m_3 at h
  obtain ⟨⟨re, fa, fb, fc, fd, k, c, st, kb, cb⟩, e0, h0⟩ := pullD_elim h
  obtain rfl := tup_inj e0
  exact law3_M_ok re fa fb fc fd k c st kb cb h0
theorem m_3_eq (re fa fb fc fd : Int) (k : Nat) (c : List D) (st : Int) (kb : Nat) (cb : List D) : m_3 [.agg [iD re, iD fa, iD fb, iD fc, iD fd, .list k c], .agg [iD st, .list kb cb]] = law3_M re fa fb fc fd k c st kb cb := pullD_some (re, fa, fb, fc, fd, k, c, st, kb, cb) rfl rfl
end
end Go.Proofs.Ytmohaohdbklkeaa
/- Rules, records: what is checked. -/
namespace Go.Proofs.Ytmohaohdbklkeaa
open Go.Ev Go.RowKit
set_option maxRecDepth 100000
def firstV : List Int → Int
  | [] => 0
  | x :: l => if x = 0 then firstV l else x
theorem first_go (k : Nat) : ∀ (pre l : List Int), k = (pre ++ l).length → k ≤ 1000000 → (∀ x ∈ pre, x = 0) →
    runR (firstOf_L2_S k ((pre ++ l).map iD)) (.next 0 [iD (pre.length : Int)]) = some (if firstV l = 0 then .out 0 [] else .out 1 [iD (firstV l)]) := by
  intro pre l
  induction l generalizing pre with
  | nil =>
    intro hk _ _
    rw [List.append_nil] at hk ⊢
    refine runR_exit ?_
    show firstOf_L2_S0 _ _ _ = _
    unfold firstOf_L2_S0
    rw [pullD_some (pre.length : Int) (by rfl) (by rfl), if_neg (by omega)]
  | cons x l ih =>
    intro hk hs hp
    have hg : (pre ++ x :: l)[pre.length]? = some x := by simp
    have hlt : pre.length < k := by rw [hk, List.length_append, List.length_cons]; omega
    by_cases hx : x = 0
    · have st : firstOf_L2_S k ((pre ++ x :: l).map iD) (.next 0 [iD (pre.length : Int)]) = some (.next 0 [iD (((pre ++ [x]).length : Nat) : Int)]) := by
        show firstOf_L2_S0 _ _ _ = _
        unfold firstOf_L2_S0
        rw [pullD_some (pre.length : Int) (by rfl) (by rfl), if_pos (by omega), guardP_pos (by omega), readW hg, pullI, if_neg (by simp [hx]), wrapJ _ (by omega) (by omega), List.length_append, List.length_singleton]
        rfl
      have h2 := ih (pre ++ [x]) (by rw [hk]; simp) hs (fun y hy => by
        rcases List.mem_append.1 hy with h | h
        · exact hp y h
        · simp at h; rw [h]; exact hx)
      rw [List.append_assoc, List.singleton_append] at h2
      rw [runR_next st, h2]
      simp [firstV, hx]
    · refine (runR_exit (j := 1) (es := [iD x]) ?_).trans ?_
      · show firstOf_L2_S0 _ _ _ = _
        unfold firstOf_L2_S0
        rw [pullD_some (pre.length : Int) (by rfl) (by rfl), if_pos (by omega), guardP_pos (by omega), readW hg, pullI, if_pos hx]
      · simp [firstV, hx]
theorem firstOf_eq (l : List Int) (hl : l.length ≤ 1000000) : m_45 [lD l] = some (iD (firstV l)) := by
  have h := first_go l.length [] l rfl hl (fun _ h => by cases h)
  simp only [List.nil_append, List.length_nil] at h
  have h : runR (firstOf_L2_S l.length (l.map iD)) (.next 0 [.one (.int .i64 0)]) = some (if firstV l = 0 then .out 0 [] else .out 1 [iD (firstV l)]) := h
  rw [m_45_eq]
  unfold firstOf_M
  by_cases h0 : firstV l = 0
  · rw [if_pos h0] at h
    rw [bindL_some h, if_pos rfl, pullD_some () (by rfl) (by rfl), h0]
  · rw [if_neg h0] at h
    rw [bindL_some h, if_neg (by decide), if_pos rfl, pullD_some (firstV l) (by rfl) (by rfl)]
theorem f2 (x y : Int) : m_45 [.list 2 [iD x, iD y]] = some (iD (firstV [x, y])) := firstOf_eq [x, y] (by simp)
theorem f3 (x y z : Int) : m_45 [.list 3 [iD x, iD y, iD z]] = some (iD (firstV [x, y, z])) := firstOf_eq [x, y, z] (by simp)
theorem within_eq (n lo hi : Int) : m_33 [iD n, iD lo, iD hi] = some (.one (.bool (decide (lo ≤ n ∧ n ≤ hi)))) := by
  rw [m_33_eq]
  unfold within_M
  by_cases h : lo ≤ n
  · rw [if_pos h]; simp [h]
  · rw [if_neg h]; simp [h]
def stepE (n : Int) : Int := if 1 ≤ n ∧ n ≤ 1000000 then 0 else 2
theorem chkStep_eq (n : Int) : m_74 [iD n] = some (iD (stepE n)) := by
  rw [m_74_eq]
  unfold chkStep_M stepE
  repeat' split
  all_goals first | rfl | (exfalso; omega)
/-- Where the division with a remainder ends. -/
def eu (a b : Int) : Int := if h : b = 0 then a else eu b (a.tmod b)
termination_by b.natAbs
decreasing_by
  rw [Int.natAbs_tmod]
  exact Nat.mod_lt _ (by omega)
theorem eu_zero (a : Int) : eu a 0 = a := by unfold eu; simp
theorem eu_step {a b : Int} (h : b ≠ 0) : eu a b = eu b (a.tmod b) := by
  conv => lhs; unfold eu
  rw [dif_neg h]
theorem eu_gcd (a b : Int) : (eu a b).natAbs = Int.gcd a b := by
  generalize hk : b.natAbs = k
  induction k using Nat.strongRecOn generalizing a b with
  | ind k ih =>
    by_cases h : b = 0
    · subst h; rw [eu_zero]; simp
    · have hlt : (a.tmod b).natAbs < b.natAbs := by rw [Int.natAbs_tmod]; exact Nat.mod_lt _ (by omega)
      rw [eu_step h, ih _ (by omega) b (a.tmod b) rfl]
      show Nat.gcd b.natAbs (a.tmod b).natAbs = Nat.gcd a.natAbs b.natAbs
      rw [Int.natAbs_tmod, Nat.gcd_comm a.natAbs, Nat.gcd_rec b.natAbs a.natAbs, Nat.gcd_comm]
def absW (r : Int) : Int := if IntKind.i64.wrap (0 - r) > r then IntKind.i64.wrap (0 - r) else r
theorem absW_eq {r : Int} (h : r.natAbs < 9223372036854775808) : absW r = (r.natAbs : Int) := by
  unfold absW
  rw [wrapJ _ (by omega) (by omega)]
  split <;> omega
theorem div_go (x y : Int) : ∀ (k : Nat) (a b : Int), b.natAbs ≤ k → runR (divisor_L1_S x y) (.next 0 [iD a, iD b]) = some (.out 0 [iD (eu a b)]) := by
  intro k
  induction k with
  | zero =>
    intro a b h
    have hb : b = 0 := by omega
    subst hb
    refine runR_exit ?_
    show divisor_L1_S0 x y _ = _
    unfold divisor_L1_S0
    rw [pullD_some (a, (0 : Int)) (by rfl) (by rfl)]
    dsimp only
    rw [if_neg (by simp), eu_zero]
  | succ k ih =>
    intro a b h
    by_cases hb : b = 0
    · exact ih a b (by omega)
    · have st : divisor_L1_S x y (.next 0 [iD a, iD b]) = some (.next 0 [iD b, iD (a.tmod b)]) := by
        show divisor_L1_S0 x y _ = _
        unfold divisor_L1_S0
        rw [pullD_some (a, b) (by rfl) (by rfl)]
        dsimp only
        rw [if_pos hb]
      have hlt : (a.tmod b).natAbs < b.natAbs := by rw [Int.natAbs_tmod]; exact Nat.mod_lt _ (by omega)
      rw [runR_next st, ih b (a.tmod b) (by omega), ← eu_step hb]
theorem divisor_eq (a b : Int) : m_102 [iD a, iD b] = some (iD (absW (eu a b))) := by
  rw [m_102_eq]
  unfold divisor_M
  rw [div_go a b b.natAbs a b (Nat.le_refl _), bindL_some rfl, if_pos rfl, pullD_some (eu a b) (by rfl) (by rfl)]
  rfl
theorem gcd_loop (x y : Int) : ∀ (k : Nat) (a b : Int), b.natAbs ≤ k → runR (gcd_L1_S x y) (.next 0 [iD a, iD b]) = some (.out 0 [iD (eu a b)]) := by
  intro k
  induction k with
  | zero =>
    intro a b h
    have hb : b = 0 := by omega
    subst hb
    refine runR_exit ?_
    show gcd_L1_S0 x y _ = _
    unfold gcd_L1_S0
    rw [pullD_some (a, (0 : Int)) (by rfl) (by rfl)]
    dsimp only
    rw [if_neg (by simp), eu_zero]
  | succ k ih =>
    intro a b h
    by_cases hb : b = 0
    · exact ih a b (by omega)
    · have st : gcd_L1_S x y (.next 0 [iD a, iD b]) = some (.next 0 [iD b, iD (a.tmod b)]) := by
        show gcd_L1_S0 x y _ = _
        unfold gcd_L1_S0
        rw [pullD_some (a, b) (by rfl) (by rfl)]
        dsimp only
        rw [if_pos hb]
      have hlt : (a.tmod b).natAbs < b.natAbs := by rw [Int.natAbs_tmod]; exact Nat.mod_lt _ (by omega)
      rw [runR_next st, ih b (a.tmod b) (by omega), ← eu_step hb]
theorem gcdI_eq (a b : Int) : m_100 [iD a, iD b] = some (iD (absW (eu a b))) := by
  rw [m_100_eq]
  unfold gcd_M
  rw [gcd_loop a b b.natAbs a b (Nat.le_refl _), bindL_some rfl, if_pos rfl, pullD_some (eu a b) (by rfl) (by rfl), m_103_eq]
  unfold size_M
  rw [pullI]
  rfl
theorem absW_gcd {a b : Int} (h : 0 < b) (h2 : b < 9223372036854775808) : absW (eu a b) = ((Int.gcd a b : Nat) : Int) := by
  have h1 : Int.gcd a b ≤ b.natAbs := Nat.le_of_dvd (by omega) (Int.gcd_dvd_natAbs_right a b)
  rw [absW_eq (by rw [eu_gcd]; omega), eu_gcd]
theorem gv2 (x : Int) : firstV [2, x] = 2 := rfl
theorem gv0 (x : Int) : firstV [0, x] = x := by
  unfold firstV firstV
  simp only [if_true]
  split
  · rename_i h; rw [h]; rfl
  · rfl
theorem gv9 (x : Int) : firstV [9, x] = 9 := rfl
theorem n2 : ((2 : Int) ≠ 0) = True := by decide
theorem n9 : ((9 : Int) ≠ 0) = True := by decide
theorem n0 : ((0 : Int) ≠ 0) = False := by decide
def lowB (n d : Int) : Bool := decide (0 < d ∧ absW (eu n d) = 1)
theorem isLowest_eq (n d : Int) : m_97 [.agg [iD n, iD d]] = some (.one (.bool (lowB n d))) := by
  rw [m_97_eq]
  unfold isLowest_M lowB
  by_cases h : d > 0
  · rw [if_pos h, gcdI_eq, pullI]
    congr 3
    rw [Bool.eq_iff_iff]; simp [show 0 < d from h]
  · rw [if_neg h]
    congr 3
    rw [Bool.eq_iff_iff]; simp [show ¬ 0 < d from h]
theorem isReduced_eq (n d : Int) : m_94 [.agg [iD n, iD d]] = some (.one (.bool (lowB n d))) := by
  rw [m_94_eq]
  unfold isReduced_M lowB
  by_cases h : d > 0
  · rw [if_pos h, divisor_eq, pullI]
    congr 3
    rw [Bool.eq_iff_iff]; simp [show 0 < d from h]
  · rw [if_neg h]
    congr 3
    rw [Bool.eq_iff_iff]; simp [show ¬ 0 < d from h]
theorem lowB_pos {n d : Int} (h : lowB n d = true) : 0 < d := by
  unfold lowB at h
  simp only [decide_eq_true_eq] at h
  exact h.1
def facR (x : Q4) : Prop := 1 ≤ x.a ∧ x.a ≤ 1000 ∧ 1 ≤ x.b ∧ x.b ≤ 1000 ∧ 1 ≤ x.c ∧ x.c ≤ 1000 ∧ 1 ≤ x.d ∧ x.d ≤ 1000
instance (x : Q4) : Decidable (facR x) := by unfold facR; infer_instance
/-- Why a factor is refused. -/
def facE (x : Q4) : Int := if lowB x.a x.b = true ∧ lowB x.c x.d = true then (if facR x then (if x.a * x.d ≤ x.c * x.b then 0 else 9) else 2) else 3
theorem mulK {x y : Int} (h1 : 1 ≤ x) (h2 : x ≤ 1000) (h3 : 1 ≤ y) (h4 : y ≤ 1000) : 0 ≤ x * y ∧ x * y ≤ 1000000 := ⟨Int.mul_nonneg (by omega) (by omega), by
  have := Int.mul_le_mul h2 h4 (by omega) (by omega : (0 : Int) ≤ 1000)
  omega⟩
theorem isLess_eq {n d m e : Int} (h1 : 0 ≤ n * e) (h2 : n * e ≤ 1000000) (h3 : 0 ≤ m * d) (h4 : m * d ≤ 1000000) : m_95 [.agg [iD n, iD d], .agg [iD m, iD e]] = some (.one (.bool (decide (n * e < m * d)))) := by
  rw [m_95_eq]
  unfold isLess_M
  rw [wrapJ (n * e) (by omega) (by omega), wrapJ (m * d) (by omega) (by omega)]
theorem cmpI_eq {n d m e : Int} (h1 : 0 ≤ n * e) (h2 : n * e ≤ 1000000) (h3 : 0 ≤ m * d) (h4 : m * d ≤ 1000000) : m_39 [.agg [iD n, iD d], .agg [iD m, iD e]] = some (iD (if n * e < m * d then -1 else if n * e > m * d then 1 else 0)) := by
  rw [m_39_eq]
  unfold cmpI_M
  rw [wrapJ (n * e) (by omega) (by omega), wrapJ (m * d) (by omega) (by omega)]
  repeat' split
  all_goals rfl
theorem facE3 {x : Q4} (h : lowB x.a x.b = false ∨ lowB x.c x.d = false) : facE x = 3 := by
  unfold facE
  rw [if_neg]
  rcases h with h | h <;> simp [h]
theorem facE2 {x : Q4} (h1 : lowB x.a x.b = true) (h2 : lowB x.c x.d = true) (h : ¬ facR x) : facE x = 2 := by
  unfold facE
  rw [if_pos ⟨h1, h2⟩, if_neg h]
theorem chkFactor_eq (p q u v : Int) : m_73 [.agg [iD p, iD q, iD u, iD v]] = some (iD (facE ⟨p, q, u, v⟩)) := by
  rw [m_73_eq]
  unfold chkFactor_M
  rw [isReduced_eq, pullB, isReduced_eq, pullB]
  cases b1 : lowB p q with
  | false => rw [if_pos rfl, facE3 (.inl b1)]
  | true =>
    rw [if_neg (by decide)]
    cases b2 : lowB u v with
    | false => rw [if_pos rfl, facE3 (.inr b2)]
    | true =>
      rw [if_neg (by decide)]
      by_cases g : facR ⟨p, q, u, v⟩
      · have g' := g
        unfold facR at g'
        simp only at g'
        obtain ⟨k1, k2⟩ := mulK (x := p) (y := v) (by omega) (by omega) (by omega) (by omega)
        obtain ⟨k3, k4⟩ := mulK (x := u) (y := q) (by omega) (by omega) (by omega) (by omega)
        rw [if_neg (by omega), if_neg (by omega), if_neg (by omega), if_neg (by omega), if_neg (by omega), if_neg (by omega), if_neg (by omega), if_neg (by omega), isLess_eq k3 k4 k1 k2, pullB]
        have hE : facE ⟨p, q, u, v⟩ = if p * v ≤ u * q then 0 else 9 := by
          unfold facE
          rw [if_pos ⟨b1, b2⟩, if_pos g]
        rw [hE]
        by_cases o : p * v ≤ u * q
        · rw [if_pos o, if_neg (by simp; omega)]
        · rw [if_neg o, if_pos (by simp; omega)]
      · rw [facE2 b1 b2 g]
        unfold facR at g
        simp only at g
        by_cases q0 : p < 1
        · rw [if_pos q0]
        rw [if_neg q0]
        by_cases q1 : p > 1000
        · rw [if_pos q1]
        rw [if_neg q1]
        by_cases q2 : q < 1
        · rw [if_pos q2]
        rw [if_neg q2]
        by_cases q3 : q > 1000
        · rw [if_pos q3]
        rw [if_neg q3]
        by_cases q4 : u < 1
        · rw [if_pos q4]
        rw [if_neg q4]
        by_cases q5 : u > 1000
        · rw [if_pos q5]
        rw [if_neg q5]
        by_cases q6 : v < 1
        · rw [if_pos q6]
        rw [if_neg q6, if_pos (by omega)]
theorem facErr_eq (p q u v : Int) : m_83 [.agg [iD p, iD q, iD u, iD v]] = some (iD (facE ⟨p, q, u, v⟩)) := by
  rw [m_83_eq]
  unfold facErr_M
  rw [isLowest_eq, pullB, isLowest_eq, pullB, within_eq, pullB, within_eq, pullB]
  cases b1 : lowB p q with
  | false => rw [if_pos rfl, facE3 (.inl b1)]
  | true =>
    rw [if_neg (by decide)]
    cases b2 : lowB u v with
    | false => rw [if_pos rfl, facE3 (.inr b2)]
    | true =>
      have hq := lowB_pos b1
      have hv := lowB_pos b2
      rw [if_neg (by decide)]
      by_cases g : facR ⟨p, q, u, v⟩
      · have g' := g
        unfold facR at g'
        simp only at g'
        obtain ⟨k1, k2⟩ := mulK (x := p) (y := v) (by omega) (by omega) (by omega) (by omega)
        obtain ⟨k3, k4⟩ := mulK (x := u) (y := q) (by omega) (by omega) (by omega) (by omega)
        rw [if_neg (by simp; omega), if_neg (by simp; omega), if_neg (by omega), if_neg (by omega), cmpI_eq k1 k2 k3 k4, pullI]
        have hE : facE ⟨p, q, u, v⟩ = if p * v ≤ u * q then 0 else 9 := by
          unfold facE
          rw [if_pos ⟨b1, b2⟩, if_pos g]
        rw [hE]
        by_cases o : p * v ≤ u * q
        · rw [if_pos (c := p * v ≤ u * q) o, if_neg]
          split
          · decide
          · rw [if_neg (by omega)]; decide
        · rw [if_neg (c := p * v ≤ u * q) o, if_neg (c := p * v < u * q) (by omega), if_pos (c := p * v > u * q) (by omega), if_pos (by decide)]
      · rw [facE2 b1 b2 g]
        unfold facR at g
        simp only at g
        by_cases q0 : 1 ≤ p ∧ p ≤ 1000
        · rw [if_neg (by simp; omega)]
          by_cases q1 : 1 ≤ u ∧ u ≤ 1000
          · rw [if_neg (by simp; omega)]
            by_cases q2 : q > 1000
            · rw [if_pos q2]
            rw [if_neg q2, if_pos (by omega)]
          · rw [if_pos (by simp; omega)]
        · rw [if_pos (by simp; omega)]
def fstE (e : Nat → Int) : Nat → Nat → Int
  | 0, _ => 0
  | m + 1, i => if e i = 0 then fstE e m (i + 1) else e i
theorem scanF {n : Nat} {e : Nat → Int} {S : Rd → Option Rd} (hs : ∀ i, i < n → S (.next 0 [iD (i : Int)]) = if e i = 0 then some (.next 0 [iD ((i + 1 : Nat) : Int)]) else some (.out 1 [iD (e i)])) (he : S (.next 0 [iD (n : Int)]) = some (.out 0 [])) :
    ∀ m i, i + m = n → runR S (.next 0 [iD (i : Int)]) = if fstE e m i = 0 then some (.out 0 []) else some (.out 1 [iD (fstE e m i)]) := by
  intro m
  induction m with
  | zero =>
    intro i hi
    have : i = n := by omega
    subst this
    rw [runR_exit he]; rfl
  | succ m ih =>
    intro i hi
    have h1 := hs i (by omega)
    unfold fstE
    by_cases h0 : e i = 0
    · rw [if_pos h0] at h1
      rw [runR_next h1, ih (i + 1) (by omega), if_pos h0]
    · rw [if_neg h0] at h1
      rw [runR_exit h1, if_neg h0, if_neg h0]
theorem fstE_zero {e : Nat → Int} : ∀ {m i : Nat}, fstE e m i = 0 → ∀ j, i ≤ j → j < i + m → e j = 0
  | 0, i, _, j, h1, h2 => by omega
  | m + 1, i, h, j, h1, h2 => by
    unfold fstE at h
    split at h
    · rename_i h0
      rcases Nat.lt_or_ge i j with h3 | h3
      · exact fstE_zero h j (by omega) (by omega)
      · have : j = i := by omega
        subst this; exact h0
    · contradiction
abbrev ruD (re : Int) (f : Q4) (l : List Q4) : D := .agg [iD re, iD f.a, iD f.b, iD f.c, iD f.d, lQ l]
abbrev chE (l : List Q4) : Int := fstE (fun i => facE (qAt l i)) l.length 0
/-- Why rules are refused. -/
def rulE (re : Int) (f : Q4) (l : List Q4) : Int := if 0 ≤ re ∧ re ≤ 100 then (if facE f = 0 then (if 4 < l.length then 8 else chE l) else facE f) else 2
theorem chkError_eq (n : Int) : m_69 [iD n] = some (iD (if 0 ≤ n ∧ n ≤ 100 then 0 else 2)) := by
  rw [m_69_eq]
  unfold chkError_M
  repeat' split
  all_goals first | rfl | (exfalso; omega)
theorem chkRules_eq (re : Int) (f : Q4) (l : List Q4) (hl : l.length ≤ 1000) : m_46 [ruD re f l] = some (iD (rulE re f l)) := by
  rw [m_46_eq]
  unfold chkRules_M rulE
  have h1 : m_73 [shNL1_0 f.a f.b f.c f.d] = _ := chkFactor_eq f.a f.b f.c f.d
  rw [chkError_eq, pullI, h1, pullI, f2, pullI]
  by_cases g : 0 ≤ re ∧ re ≤ 100
  · rw [if_pos g, gv0, if_pos g]
    by_cases g2 : facE f = 0
    · have g2' : facE ⟨f.a, f.b, f.c, f.d⟩ = 0 := g2
      rw [if_pos g2, if_neg (fun h => h g2')]
      by_cases g3 : 4 < l.length
      · rw [if_pos g3, if_pos (by omega)]
      · rw [if_neg g3, if_neg (by omega)]
        have h := fun x0 x1 x2 => scanF (n := l.length) (e := fun i => facE (qAt l i)) (S := chkRules_L7_S re f.a f.b f.c f.d l.length (cQ l) x0 x1 x2) (fun i hi => by
          rw [chkRules_L7_S_0]
          unfold chkRules_L7_S0
          rw [pullD_some (i : Int) (by rfl) (by rfl), if_pos (by omega), guardP_pos (by omega), show ((i : Int).toNat) = i from rfl, readQ hi, pullD_some ((qAt l i).a, (qAt l i).b, (qAt l i).c, (qAt l i).d) (by rfl) (by rfl)]
          dsimp only
          have h2 : m_73 [shNL1_0 (qAt l i).a (qAt l i).b (qAt l i).c (qAt l i).d] = _ := chkFactor_eq (qAt l i).a (qAt l i).b (qAt l i).c (qAt l i).d
          rw [h2, pullI, natI (by omega)]
          by_cases q : facE (qAt l i) = 0
          · rw [if_pos q, if_neg (fun h => h q)]
          · rw [if_neg q, if_pos q]) (by
          rw [chkRules_L7_S_0]
          unfold chkRules_L7_S0
          rw [pullD_some (l.length : Int) (by rfl) (by rfl), if_neg (by omega)]) l.length 0 (by omega)
        simp only [Int.natCast_zero] at h
        by_cases q : chE l = 0
        · rw [bindL_some ((h _ _ _).trans (if_pos q)), if_pos rfl, pullD_some () (by rfl) (by rfl), q]
        · rw [bindL_some ((h _ _ _).trans (if_neg q)), if_neg (by decide), if_pos rfl, pullD_some (chE l) (by rfl) (by rfl)]
    · have g2' : facE ⟨f.a, f.b, f.c, f.d⟩ ≠ 0 := g2
      rw [if_neg g2, if_pos g2']
  · rw [if_neg g, gv2, if_neg g, if_pos (by decide)]
theorem rulesErr_eq (re : Int) (f : Q4) (l : List Q4) (hl : l.length ≤ 1000) : m_53 [ruD re f l] = some (iD (rulE re f l)) := by
  rw [m_53_eq]
  unfold rulesErr_M rulE
  have h1 : m_83 [shNL1_0 f.a f.b f.c f.d] = _ := facErr_eq f.a f.b f.c f.d
  rw [within_eq, pullB, h1, pullI]
  by_cases g : 0 ≤ re ∧ re ≤ 100
  · rw [if_neg (by simp; omega), if_pos g]
    by_cases g2 : facE f = 0
    · have g2' : facE ⟨f.a, f.b, f.c, f.d⟩ = 0 := g2
      rw [if_pos g2, if_neg (fun h => h g2')]
      by_cases g3 : 4 < l.length
      · rw [if_pos g3, if_pos (by omega)]
      · rw [if_neg g3, if_neg (by omega)]
        have h := fun x0 x1 => scanF (n := l.length) (e := fun i => facE (qAt l i)) (S := rulesErr_L9_S re f.a f.b f.c f.d l.length (cQ l) x0 x1) (fun i hi => by
          rw [rulesErr_L9_S_0]
          unfold rulesErr_L9_S0
          rw [pullD_some (i : Int) (by rfl) (by rfl), if_pos (by omega), guardP_pos (by omega), show ((i : Int).toNat) = i from rfl, readQ hi, pullD_some ((qAt l i).a, (qAt l i).b, (qAt l i).c, (qAt l i).d) (by rfl) (by rfl)]
          dsimp only
          have h2 : m_83 [shNL1_0 (qAt l i).a (qAt l i).b (qAt l i).c (qAt l i).d] = _ := facErr_eq (qAt l i).a (qAt l i).b (qAt l i).c (qAt l i).d
          rw [h2, pullI, natI (by omega)]
          by_cases q : facE (qAt l i) = 0
          · rw [if_pos q, if_neg (fun h => h q)]
          · rw [if_neg q, if_pos q]) (by
          rw [rulesErr_L9_S_0]
          unfold rulesErr_L9_S0
          rw [pullD_some (l.length : Int) (by rfl) (by rfl), if_neg (by omega)]) l.length 0 (by omega)
        simp only [Int.natCast_zero] at h
        by_cases q : chE l = 0
        · rw [bindL_some ((h _ _).trans (if_pos q)), if_pos rfl, pullD_some () (by rfl) (by rfl), q]
        · rw [bindL_some ((h _ _).trans (if_neg q)), if_neg (by decide), if_pos rfl, pullD_some (chE l) (by rfl) (by rfl)]
    · have g2' : facE ⟨f.a, f.b, f.c, f.d⟩ ≠ 0 := g2
      rw [if_neg g2, if_pos g2']
  · rw [if_pos (by simp; omega), if_neg g]
theorem copyRules_eq (re : Int) (f : Q4) (l : List Q4) (hl : l.length ≤ 1000) : m_13 [ruD re f l] = some (ruD re f l) := by
  rw [m_13_eq]
  unfold copyRules_M
  rw [guardP_pos (by omega), guardP_pos (cQ_len l)]
abbrev reD (st : Int) (l : List Int) : D := .agg [iD st, lD l]
/-- Why a record is refused. -/
def recE (st : Int) (l : List Int) : Int := if 1 ≤ st ∧ st ≤ 1000000 then (if l.length < 3 then 10 else if 64 < l.length then 8 else if allIn (-4096) 4096 l = true then 0 else 2) else 2
theorem copyInts_eq (l : List Int) (hl : l.length ≤ 1000) : m_27 [lD l] = some (lD l) := by
  rw [m_27_eq]
  unfold copyInts_M
  rw [guardP_pos ⟨cells_int l, by omega, by omega, by omega⟩, guardP_pos (by simp), guardP_pos ⟨by simp, by omega⟩, Nat.zero_add]
theorem copyRecord_eq (st : Int) (l : List Int) (hl : l.length ≤ 1000) : m_14 [reD st l] = some (reD st l) := by
  rw [m_14_eq]
  unfold copyRecord_M
  rw [copyInts_eq l hl, pullD_some (l.length, l.map iD) (by rfl) (by rfl)]
theorem chkCount_eq (n : Nat) : m_75 [iD (n : Int)] = some (iD (if n < 3 then 10 else if 64 < n then 8 else 0)) := by
  rw [m_75_eq]
  unfold chkCount_M
  by_cases h1 : n < 3
  · rw [if_pos h1, if_pos (by omega)]
  rw [if_neg h1, if_neg (by omega)]
  by_cases h2 : 64 < n
  · rw [if_pos h2, if_pos (by omega)]
  · rw [if_neg h2, if_neg (by omega)]
theorem chkRecord_eq (st : Int) (l : List Int) (hl : l.length ≤ 1000) : m_47 [reD st l] = some (iD (recE st l)) := by
  rw [m_47_eq]
  unfold chkRecord_M recE
  rw [chkStep_eq, pullI, chkCount_eq, pullI, f2, pullI]
  unfold stepE
  by_cases g : 1 ≤ st ∧ st ≤ 1000000
  · rw [if_pos g, if_pos g, gv0]
    by_cases g1 : l.length < 3
    · rw [if_pos g1, if_pos g1, if_pos (by decide)]
    rw [if_neg g1, if_neg g1]
    by_cases g2 : 64 < l.length
    · rw [if_pos g2, if_pos g2, if_pos (by decide)]
    rw [if_neg g2, if_neg g2, if_neg (by decide)]
    have h := fun x0 x1 => scanIn l (-4096) 4096 (chkRecord_L101_2_S st l.length (l.map iD) x0 x1) (.out 1 [iD 2]) (fun _ _ e => by cases e) (fun i hi => by
      rw [chkRecord_L101_2_S_0]
      unfold chkRecord_L101_2_S0
      rw [pullD_some (i : Int) (by rfl) (by rfl), if_pos (by omega), guardP_pos (by omega), readA hi, pullD_some (at' l i) (by rfl) (by rfl), natI (by omega)]
      by_cases q : -4096 ≤ at' l i ∧ at' l i ≤ 4096
      · rw [if_neg (by omega), if_neg (by omega), if_pos q]
      · rw [if_neg q]
        by_cases q1 : at' l i < -4096
        · rw [if_pos q1]
        · rw [if_neg q1, if_pos (by omega)]) (by
      rw [chkRecord_L101_2_S_0]
      unfold chkRecord_L101_2_S0
      rw [pullD_some (l.length : Int) (by rfl) (by rfl), if_neg (by omega)])
    by_cases q : allIn (-4096) 4096 l = true
    · rw [if_pos q, bindL_some ((h _ _).trans (if_pos q)), if_pos rfl, pullD_some () (by rfl) (by rfl)]
    · rw [if_neg q, bindL_some ((h _ _).trans (if_neg q)), if_neg (by decide), if_pos rfl, pullD_some (2 : Int) (by rfl) (by rfl)]
  · rw [if_neg g, if_neg g, gv2, if_pos (by decide)]
theorem recErr_eq (st : Int) (l : List Int) (hl : l.length ≤ 1000) : m_41 [reD st l] = some (iD (recE st l)) := by
  rw [m_41_eq]
  unfold recErr_M recE
  rw [within_eq, pullB]
  by_cases g : 1 ≤ st ∧ st ≤ 1000000
  · rw [if_neg (by simp; omega), if_pos g]
    by_cases g1 : l.length < 3
    · rw [if_pos g1, if_pos (by omega)]
    rw [if_neg g1, if_neg (by omega)]
    by_cases g2 : 64 < l.length
    · rw [if_pos g2, if_pos (by omega)]
    rw [if_neg g2, if_neg (by omega)]
    have h := fun x0 => scanIn l (-4096) 4096 (recErr_L8_S st l.length (l.map iD) x0) (.out 1 [iD 2]) (fun _ _ e => by cases e) (fun i hi => by
      rw [recErr_L8_S_0]
      unfold recErr_L8_S0
      rw [pullD_some (i : Int) (by rfl) (by rfl), if_pos (by omega), guardP_pos (by omega), readA hi, pullD_some (at' l i) (by rfl) (by rfl), within_eq, pullB, natI (by omega)]
      by_cases q : -4096 ≤ at' l i ∧ at' l i ≤ 4096
      · rw [if_neg (by simp [q]), if_pos q]
      · rw [if_pos (by simpa using q), if_neg q]) (by
      rw [recErr_L8_S_0]
      unfold recErr_L8_S0
      rw [pullD_some (l.length : Int) (by rfl) (by rfl), if_neg (by omega)])
    by_cases q : allIn (-4096) 4096 l = true
    · rw [if_pos q, bindL_some ((h _).trans (if_pos q)), if_pos rfl, pullD_some () (by rfl) (by rfl)]
    · rw [if_neg q, bindL_some ((h _).trans (if_neg q)), if_neg (by decide), if_pos rfl, pullD_some (2 : Int) (by rfl) (by rfl)]
  · rw [if_pos (by simp; omega), if_neg g]
theorem few_eq (st : Int) (l : List Int) : m_10 [reD st l] = some (.one (.bool (decide ((l.length : Int) ≤ 70)))) := by
  rw [m_10_eq]
  rfl
theorem fewF_eq (re : Int) (f : Q4) (l : List Q4) : m_11 [ruD re f l] = some (.one (.bool (decide ((l.length : Int) ≤ 6)))) := by
  rw [m_11_eq]
  rfl
end Go.Proofs.Ytmohaohdbklkeaa
/- True samples, levels, halves. -/
namespace Go.Proofs.Ytmohaohdbklkeaa
open Go.Ev Go.RowKit
set_option maxRecDepth 100000
/-! ### The first place -/
def fidx (p : Nat → Bool) : Nat → Nat → Int
  | 0, _ => -1
  | m + 1, i => if p i = true then (i : Int) else fidx p m (i + 1)
theorem fidx_true {p : Nat → Bool} {m i : Nat} (h : p i = true) : fidx p (m + 1) i = i := by unfold fidx; rw [if_pos h]
theorem fidx_false {p : Nat → Bool} {m i : Nat} (h : p i = false) : fidx p (m + 1) i = fidx p m (i + 1) := by
  conv => lhs; unfold fidx
  rw [if_neg (by rw [h]; decide)]
theorem fidx_range (p : Nat → Bool) : ∀ m i, fidx p m i = -1 ∨ ((i : Int) ≤ fidx p m i ∧ fidx p m i < ((i + m : Nat) : Int) ∧ p (fidx p m i).toNat = true ∧ ∀ j, i ≤ j → (j : Int) < fidx p m i → p j = false)
  | 0, _ => .inl rfl
  | m + 1, i => by
    unfold fidx
    cases h : p i with
    | true =>
      rw [if_pos rfl]
      exact .inr ⟨by omega, by omega, h, fun j h1 h2 => by omega⟩
    | false =>
      rw [if_neg (by decide)]
      rcases fidx_range p m (i + 1) with e | ⟨a, b, c, d⟩
      · exact .inl e
      · refine .inr ⟨by omega, by omega, c, fun j h1 h2 => ?_⟩
        rcases Nat.lt_or_ge i j with h3 | h3
        · exact d j (by omega) h2
        · have : j = i := by omega
          subst this; exact h
theorem fidx_none {p : Nat → Bool} : ∀ {m i}, fidx p m i < 0 → ∀ j, i ≤ j → j < i + m → p j = false
  | 0, i, _, j, h1, h2 => by omega
  | m + 1, i, h, j, h1, h2 => by
    unfold fidx at h
    cases h0 : p i with
    | true => rw [h0, if_pos rfl] at h; omega
    | false =>
      rw [h0, if_neg (by decide)] at h
      rcases Nat.lt_or_ge i j with h3 | h3
      · exact fidx_none h j (by omega) (by omega)
      · have : j = i := by omega
        subst this; exact h0
theorem fidx_imp {p q : Nat → Bool} (hpq : ∀ i, q i = true → p i = true) {m i : Nat} (h : 0 ≤ fidx q m i) : 0 ≤ fidx p m i := by
  rcases fidx_range q m i with e | ⟨a, b, c, -⟩
  · omega
  · refine Classical.byContradiction fun hn => ?_
    have := fidx_none (p := p) (m := m) (i := i) (by omega) (fidx q m i).toNat (by omega) (by omega)
    rw [hpq _ c] at this
    cases this
theorem fidx_shift (p : Nat → Bool) (s : Nat) : ∀ m i, fidx (fun j => p (s + j)) m i = if fidx p m (s + i) < 0 then -1 else fidx p m (s + i) - s
  | 0, i => by unfold fidx; rw [if_pos (by decide)]
  | m + 1, i => by
    cases h : p (s + i) with
    | true => rw [fidx_true (p := fun j => p (s + j)) h, fidx_true h, if_neg (by omega)]; omega
    | false =>
      rw [fidx_false (p := fun j => p (s + j)) h, fidx_false h]
      exact fidx_shift p s m (i + 1)
theorem scanX {n : Nat} {p : Nat → Bool} {S : Rd → Option Rd} (hs : ∀ i, i < n → S (.next 0 [iD (i : Int)]) = if p i = true then some (.out 1 [iD (i : Int)]) else some (.next 0 [iD ((i + 1 : Nat) : Int)])) (he : S (.next 0 [iD (n : Int)]) = some (.out 0 [])) :
    ∀ m i, i + m = n → runR S (.next 0 [iD (i : Int)]) = if fidx p m i < 0 then some (.out 0 []) else some (.out 1 [iD (fidx p m i)]) := by
  intro m
  induction m with
  | zero =>
    intro i hi
    have : i = n := by omega
    subst this
    rw [runR_exit he]; rfl
  | succ m ih =>
    intro i hi
    have h1 := hs i (by omega)
    cases h0 : p i with
    | true =>
      rw [h0, if_pos rfl] at h1
      rw [runR_exit h1, fidx_true h0, if_neg (by omega)]
    | false =>
      rw [h0, if_neg (by decide)] at h1
      rw [runR_next h1, ih (i + 1) (by omega), fidx_false h0]
/-! ### Samples -/
/-- The peak's index so far. -/
def atT (y : List Int) : Nat → Nat
  | 0 => 0
  | i + 1 => if at' y i > at' y (atT y i) then i else atT y i
theorem atT_lt {y : List Int} (h0 : 0 < y.length) : ∀ {i}, i ≤ y.length → atT y i < y.length
  | 0, _ => h0
  | i + 1, h => by
    unfold atT
    split
    · omega
    · exact atT_lt h0 (by omega)
abbrev pk (y : List Int) : Nat := atT y y.length
def rng (e : Int) (y : List Int) : List (Int × Int) := y.map fun v => (v - e, v + e)
theorem rng_len (e : Int) (y : List Int) : (rng e y).length = y.length := by simp [rng]
theorem rng_at {e : Int} {y : List Int} {i : Nat} (h : i < y.length) : (rng e y)[i]? = some (at' y i - e, at' y i + e) := by
  unfold rng
  rw [List.getElem?_map, at_get h]; rfl
theorem rng_ta {e : Int} {y : List Int} {i : Nat} (h : i < y.length) : ta (rng e y) i = at' y i - e ∧ va (rng e y) i = at' y i + e := by
  unfold ta va
  rw [rng_at h]; exact ⟨rfl, rfl⟩
theorem rng_take {e : Int} {y : List Int} {i : Nat} (h : i < y.length) : (rng e y).take (i + 1) = (rng e y).take i ++ [(at' y i - e, at' y i + e)] := by
  rw [List.take_add_one, rng_at h]; rfl
/-- An error and samples that are valid. -/
structure RX (e : Int) (y : List Int) : Prop where
  e0 : 0 ≤ e
  e1 : e ≤ 100
  l3 : 3 ≤ y.length
  l64 : y.length ≤ 64
  bnd : ∀ i, i < y.length → -4096 ≤ at' y i ∧ at' y i ≤ 4096
theorem RX.of {re st : Int} {f : Q4} {l : List Q4} {y : List Int} (h1 : rulE re f l = 0) (h2 : recE st y = 0) : RX re y := by
  unfold rulE at h1
  unfold recE at h2
  split at h1
  · rename_i g
    split at h2
    · split at h2
      · cases h2
      · split at h2
        · cases h2
        · split at h2
          · rename_i g2 g3 g4
            exact ⟨g.1, g.2, by omega, by omega, fun i hi => allIn_at g4 hi⟩
          · cases h2
    · cases h2
  · cases h1
theorem around_eq {v e : Int} (h1 : -4096 ≤ v) (h2 : v ≤ 4096) (h3 : 0 ≤ e) (h4 : e ≤ 100) : m_77 [iD v, iD e] = some (.agg [iD (v - e), iD (v + e)]) := by
  rw [m_77_eq]
  unfold around_M
  rw [wrapJ (v - e) (by omega) (by omega), wrapJ (v + e) (by omega) (by omega)]
theorem sm_go (re fa fb fc fd : Int) (k : Nat) (c : List D) (st : Int) (y : List Int) (h : RX re y) : ∀ m i, i + m = y.length → 0 < i →
    runR (samples_L3_S re fa fb fc fd k c st y.length (y.map iD)) (.next 0 [iD (i : Int), lP ((rng re y).take i), iD ((atT y i : Nat) : Int)]) = some (.out 0 [lP (rng re y), iD ((pk y : Nat) : Int)]) := by
  obtain ⟨e0, e1, l3, l64, hb⟩ := h
  intro m
  induction m with
  | zero =>
    intro i hi _
    have : i = y.length := by omega
    subst this
    have e9 : (rng re y).take y.length = rng re y := by rw [← rng_len re y]; exact List.take_length
    refine runR_exit ?_
    rw [e9, samples_L3_S_0]
    unfold samples_L3_S0
    rw [pullD_some ((y.length : Int), (rng re y).length, cP (rng re y), ((pk y : Nat) : Int)) (by rfl) (by rfl)]
    dsimp only
    rw [if_neg (by omega)]
  | succ m ih =>
    intro i hi h0
    have hi' : i < y.length := by omega
    have ha := atT_lt (y := y) (by omega) (i := i) (by omega)
    obtain ⟨b1, b2⟩ := hb i hi'
    have hlen : ((rng re y).take i).length = i := by rw [List.length_take, rng_len]; omega
    have st : samples_L3_S re fa fb fc fd k c st y.length (y.map iD) (.next 0 [iD (i : Int), lP ((rng re y).take i), iD ((atT y i : Nat) : Int)]) = some (.next 0 [iD ((i + 1 : Nat) : Int), lP ((rng re y).take (i + 1)), iD ((atT y (i + 1) : Nat) : Int)]) := by
      rw [samples_L3_S_0]
      unfold samples_L3_S0
      rw [pullD_some ((i : Int), ((rng re y).take i).length, cP ((rng re y).take i), ((atT y i : Nat) : Int)) (by rfl) (by rfl)]
      dsimp only
      rw [if_pos (by omega), guardP_pos (by omega), readA hi', pullI, around_eq b1 b2 e0 e1, pullD_some (at' y i - re, at' y i + re) (by rfl) (by rfl)]
      dsimp only
      rw [guardP_pos ⟨cellP2 _ _, by rw [cP_len]; omega, by omega, by omega⟩, guardP_pos (by omega), readA ha, pullI, growP, ← rng_take hi', natI (by omega)]
      show _ = some (Rd.next 0 [iD ((i + 1 : Nat) : Int), lP ((rng re y).take (i + 1)), iD (((if at' y i > at' y (atT y i) then i else atT y i) : Nat) : Int)])
      by_cases g : at' y i > at' y (atT y i)
      · rw [if_pos g, if_pos g]
      · rw [if_neg g, if_neg g]
    rw [runR_next st, ih (i + 1) (by omega) (by omega)]
/-- The true samples. -/
abbrev smD (e : Int) (y : List Int) : D := .agg [lP (rng e y), iD ((pk y : Nat) : Int), iD (at' y (pk y) - e), iD (at' y (pk y) + e)]
theorem samples_eq (re : Int) (f : Q4) (l : List Q4) (st : Int) (y : List Int) (h : RX re y) : m_48 [ruD re f l, reD st y] = some (smD re y) := by
  have h' := h
  obtain ⟨e0, e1, l3, l64, hb⟩ := h
  rw [m_48_eq]
  unfold samples_M
  obtain ⟨b1, b2⟩ := hb 0 (by omega)
  have st0 : samples_L3_S re f.a f.b f.c f.d l.length (cQ l) st y.length (y.map iD) (.next 1 [iD 0, .one (.tuple #[]), iD 0]) = some (.next 0 [iD ((1 : Nat) : Int), lP ((rng re y).take 1), iD ((atT y 1 : Nat) : Int)]) := by
    show samples_L3_S1 re f.a f.b f.c f.d l.length (cQ l) st y.length (y.map iD) _ = _
    unfold samples_L3_S1
    rw [pullD_some ((0 : Int), (0 : Int)) (by rfl) (by rfl)]
    dsimp only
    have r0 : readD (y.map iD) ((0 : Int).toNat * 1) 1 false = some (iD (at' y 0)) := readA (i := 0) (by omega)
    rw [if_pos (by omega), guardP_pos (by omega), r0, pullI, guardP_pos (by omega), around_eq b1 b2 e0 e1, pullD_some (at' y 0 - re, at' y 0 + re) (by rfl) (by rfl)]
    dsimp only
    rw [pullI, if_neg (by omega), wrapJ (0 + 1) (by decide) (by decide), rng_take (i := 0) (by omega)]
    have : atT y 1 = 0 := by
      show (if at' y 0 > at' y 0 then 0 else 0) = 0
      split <;> rfl
    rw [this]
    rfl
  have hr := sm_go re f.a f.b f.c f.d l.length (cQ l) st y h' (y.length - 1) 1 (by omega) (by omega)
  have hr2 := (runR_next st0).trans hr
  have ha := atT_lt (y := y) (by omega) (i := y.length) (Nat.le_refl _)
  rw [bindL_some hr2, if_pos rfl, pullD_some ((rng re y).length, cP (rng re y), ((pk y : Nat) : Int)) (by rfl) (by rfl)]
  dsimp only
  have hk : pk y < (rng re y).length := by rw [rng_len]; exact ha
  obtain ⟨t1, t2⟩ := rng_ta (e := re) ha
  rw [guardP_pos (by omega), show (((pk y : Nat) : Int).toNat) = pk y from rfl, Nat.zero_add, readP hk, pullD_some (ta (rng re y) (pk y), va (rng re y) (pk y)) (by rfl) (by rfl)]
  dsimp only
  rw [guardP_pos ⟨by rw [cP_len]; omega, by decide⟩, t1, t2]
/-! ### Levels and halves -/
abbrev mayL (P : List (Int × Int)) (lo n : Int) : Nat → Bool := fun i => decide (10 * va P i ≥ n * lo)
abbrev mustL (P : List (Int × Int)) (hi n : Int) : Nat → Bool := fun i => decide (10 * ta P i ≥ n * hi)
abbrev mayH (P : List (Int × Int)) (hi : Int) : Nat → Bool := fun i => decide (2 * ta P i ≤ hi)
abbrev mustH (P : List (Int × Int)) (lo : Int) : Nat → Bool := fun i => decide (2 * va P i ≤ lo)
structure PB (P : List (Int × Int)) (lo hi : Int) : Prop where
  len : P.length ≤ 1000
  l1 : -10000 ≤ lo
  l2 : lo ≤ 10000
  h1 : -10000 ≤ hi
  h2 : hi ≤ 10000
  bnd : ∀ i, i < P.length → -10000 ≤ ta P i ∧ ta P i ≤ 10000 ∧ -10000 ≤ va P i ∧ va P i ≤ 10000
theorem mulT {x n : Int} (h1 : -10000 ≤ x) (h2 : x ≤ 10000) (n1 : 0 ≤ n) (n2 : n ≤ 10) : -100000 ≤ n * x ∧ n * x ≤ 100000 := by
  have := mulB (x := n) (y := x) (A := 10) (B := 10000) (by omega) (by omega) h1 h2
  omega
theorem lv_may {P : List (Int × Int)} {lo hi : Int} (a n : Int) (h : PB P lo hi) (n1 : 0 ≤ n) (n2 : n ≤ 10) : runR (levelW_L96_2_S P.length (cP P) a lo hi n) (.next 0 [iD 0]) = if fidx (mayL P lo n) P.length 0 < 0 then some (.out 0 []) else some (.out 1 [iD (fidx (mayL P lo n) P.length 0)]) := by
  obtain ⟨hl, l1, l2, h1, h2, hb⟩ := h
  obtain ⟨q1, q2⟩ := mulT l1 l2 n1 n2
  have hn : ((P.length : Int)).toNat - Int.toNat (0 : Int) = P.length := by omega
  have := scanX (n := P.length) (p := mayL P lo n) (S := levelW_L96_2_S P.length (cP P) a lo hi n) (fun i hi' => by
    rw [levelW_L96_2_S_0]
    unfold levelW_L96_2_S0
    rw [hn, pullD_some (i : Int) (by rfl) (by rfl), if_pos (by omega), guardP_pos (by omega), show Int.toNat (0 : Int) * 2 = 0 from rfl, List.drop_zero, ← cP_len, List.take_length, show ((i : Int).toNat) = i from rfl, readP hi', pullD_some (ta P i, va P i) (by rfl) (by rfl)]
    dsimp only
    obtain ⟨b1, b2, b3, b4⟩ := hb i hi'
    rw [wrapJ (10 * va P i) (by omega) (by omega), wrapJ (n * lo) (by omega) (by omega), natI (by omega)]
    by_cases g : 10 * va P i ≥ n * lo
    · rw [if_pos g, if_pos (by simpa [mayL] using g)]
    · rw [if_neg g, if_neg (by simpa [mayL] using g)]) (by
    rw [levelW_L96_2_S_0]
    unfold levelW_L96_2_S0
    rw [hn, pullD_some (P.length : Int) (by rfl) (by rfl), if_neg (by omega)]) P.length 0 (by omega)
  exact this
theorem lv_must {P : List (Int × Int)} {lo hi : Int} (a n : Int) (h : PB P lo hi) (n1 : 0 ≤ n) (n2 : n ≤ 10) : runR (levelW_L96_2_1_S P.length (cP P) a lo hi n) (.next 0 [iD 0]) = if fidx (mustL P hi n) P.length 0 < 0 then some (.out 0 []) else some (.out 1 [iD (fidx (mustL P hi n) P.length 0)]) := by
  obtain ⟨hl, l1, l2, h1, h2, hb⟩ := h
  obtain ⟨q1, q2⟩ := mulT h1 h2 n1 n2
  have hn : ((P.length : Int)).toNat - Int.toNat (0 : Int) = P.length := by omega
  have := scanX (n := P.length) (p := mustL P hi n) (S := levelW_L96_2_1_S P.length (cP P) a lo hi n) (fun i hi' => by
    rw [levelW_L96_2_1_S_0]
    unfold levelW_L96_2_1_S0
    rw [hn, pullD_some (i : Int) (by rfl) (by rfl), if_pos (by omega), guardP_pos (by omega), show Int.toNat (0 : Int) * 2 = 0 from rfl, List.drop_zero, ← cP_len, List.take_length, show ((i : Int).toNat) = i from rfl, readP hi', pullD_some (ta P i, va P i) (by rfl) (by rfl)]
    dsimp only
    obtain ⟨b1, b2, b3, b4⟩ := hb i hi'
    rw [wrapJ (10 * ta P i) (by omega) (by omega), wrapJ (n * hi) (by omega) (by omega), natI (by omega)]
    by_cases g : 10 * ta P i ≥ n * hi
    · rw [if_pos g, if_pos (by simpa [mustL] using g)]
    · rw [if_neg g, if_neg (by simpa [mustL] using g)]) (by
    rw [levelW_L96_2_1_S_0]
    unfold levelW_L96_2_1_S0
    rw [hn, pullD_some (P.length : Int) (by rfl) (by rfl), if_neg (by omega)]) P.length 0 (by omega)
  exact this
theorem fidx_ge (p : Nat → Bool) (m i : Nat) : -1 ≤ fidx p m i ∧ fidx p m i < ((i + m : Nat) : Int) ∧ (fidx p m i < 0 → fidx p m i = -1) := by
  rcases fidx_range p m i with e | ⟨a, b, -, -⟩
  · omega
  · omega
theorem levelW_eq {P : List (Int × Int)} {lo hi : Int} (a : Nat) (n : Int) (h : PB P lo hi) (n1 : 0 ≤ n) (n2 : n ≤ 10) : m_49 [.agg [lP P, iD (a : Int), iD lo, iD hi], iD n] = some (.tup [.agg [iD (fidx (mayL P lo n) P.length 0), iD (fidx (mustL P hi n) P.length 0)], .one (.bool (decide (0 ≤ fidx (mustL P hi n) P.length 0)))]) := by
  have r1 := lv_may a n h n1 n2
  have r2 := lv_must a n h n1 n2
  have g1 := fidx_ge (mayL P lo n) P.length 0
  have g2 := fidx_ge (mustL P hi n) P.length 0
  have hl := h.len
  rw [m_49_eq]
  unfold levelW_M
  rw [guardP_pos ⟨by omega, by omega, by omega, cP_len P⟩]
  generalize fidx (mayL P lo n) P.length 0 = x at *
  generalize fidx (mustL P hi n) P.length 0 = z at *
  by_cases h1 : x < 0
  · rw [if_pos h1] at r1
    rw [bindL_some r1, if_pos rfl, pullD_some () (by rfl) (by rfl)]
    have ex : x = -1 := g1.2.2 h1
    by_cases h2 : z < 0
    · rw [if_pos h2] at r2
      have ez : z = -1 := g2.2.2 h2
      rw [bindL_some r2, if_pos rfl, pullD_some () (by rfl) (by rfl), ex, ez]
      try rfl
    · rw [if_neg h2] at r2
      rw [bindL_some r2, if_neg (by decide), if_pos rfl, pullD_some z (by rfl) (by rfl), wrapJ (0 + z) (by omega) (by omega), Int.zero_add, ex]
      try rfl
  · rw [if_neg h1] at r1
    rw [bindL_some r1, if_neg (by decide), if_pos rfl, pullD_some x (by rfl) (by rfl)]
    by_cases h2 : z < 0
    · rw [if_pos h2] at r2
      have ez : z = -1 := g2.2.2 h2
      rw [bindL_some r2, if_pos rfl, pullD_some () (by rfl) (by rfl), wrapJ (0 + x) (by omega) (by omega), Int.zero_add, ez]
      try rfl
    · rw [if_neg h2] at r2
      rw [bindL_some r2, if_neg (by decide), if_pos rfl, pullD_some z (by rfl) (by rfl), wrapJ (0 + z) (by omega) (by omega), wrapJ (0 + x) (by omega) (by omega), Int.zero_add, Int.zero_add]
      try rfl
theorem ta_drop (P : List (Int × Int)) (s i : Nat) : ta (P.drop s) i = ta P (s + i) ∧ va (P.drop s) i = va P (s + i) := by
  unfold ta va
  rw [List.getElem?_drop]; exact ⟨rfl, rfl⟩
theorem hf_may {P : List (Int × Int)} {lo hi : Int} (a : Nat) (ha : a < P.length) (h : PB P lo hi) : runR (halfW_L96_2_S P.length (cP P) (a : Int) lo hi) (.next 0 [iD 0]) = if fidx (fun i => mayH P hi ((a + 1) + i)) (P.length - (a + 1)) 0 < 0 then some (.out 0 []) else some (.out 1 [iD (fidx (fun i => mayH P hi ((a + 1) + i)) (P.length - (a + 1)) 0)]) := by
  obtain ⟨hl, l1, l2, h1, h2, hb⟩ := h
  have hw : (IntKind.i64.wrap ((a : Int) + 1)).toNat = a + 1 := by rw [wrapJ _ (by omega) (by omega)]; omega
  have hn : ((P.length : Int)).toNat = P.length := rfl
  have hd : (P.drop (a + 1)).length = P.length - (a + 1) := List.length_drop
  have hc : List.take ((P.length - (a + 1)) * 2) (List.drop ((a + 1) * 2) (cP P)) = cP (P.drop (a + 1)) := by
    rw [cP_drop, ← hd, ← cP_len, List.take_length]
  have := scanX (n := P.length - (a + 1)) (p := fun i => mayH P hi ((a + 1) + i)) (S := halfW_L96_2_S P.length (cP P) (a : Int) lo hi) (fun i hi' => by
    rw [halfW_L96_2_S_0]
    unfold halfW_L96_2_S0
    rw [hw, hn, hc, pullD_some (i : Int) (by rfl) (by rfl), if_pos (by omega), guardP_pos (by omega), show ((i : Int).toNat) = i from rfl, readP (by rw [hd]; exact hi'), pullD_some (ta (P.drop (a + 1)) i, va (P.drop (a + 1)) i) (by rfl) (by rfl)]
    dsimp only
    obtain ⟨t1, t2⟩ := ta_drop P (a + 1) i
    obtain ⟨b1, b2, b3, b4⟩ := hb (a + 1 + i) (by omega)
    rw [t1, wrapJ (2 * ta P (a + 1 + i)) (by omega) (by omega), natI (by omega)]
    by_cases g : 2 * ta P (a + 1 + i) ≤ hi
    · rw [if_pos g, if_pos (by simpa [mayH] using g)]
    · rw [if_neg g, if_neg (by simpa [mayH] using g)]) (by
    rw [halfW_L96_2_S_0]
    unfold halfW_L96_2_S0
    rw [hw, hn, pullD_some ((P.length - (a + 1) : Nat) : Int) (by rfl) (by rfl), if_neg (by omega)]) (P.length - (a + 1)) 0 (by omega)
  exact this
theorem hf_must {P : List (Int × Int)} {lo hi : Int} (a : Nat) (ha : a < P.length) (h : PB P lo hi) : runR (halfW_L96_2_1_S P.length (cP P) (a : Int) lo hi) (.next 0 [iD 0]) = if fidx (fun i => mustH P lo ((a + 1) + i)) (P.length - (a + 1)) 0 < 0 then some (.out 0 []) else some (.out 1 [iD (fidx (fun i => mustH P lo ((a + 1) + i)) (P.length - (a + 1)) 0)]) := by
  obtain ⟨hl, l1, l2, h1, h2, hb⟩ := h
  have hw : (IntKind.i64.wrap ((a : Int) + 1)).toNat = a + 1 := by rw [wrapJ _ (by omega) (by omega)]; omega
  have hn : ((P.length : Int)).toNat = P.length := rfl
  have hd : (P.drop (a + 1)).length = P.length - (a + 1) := List.length_drop
  have hc : List.take ((P.length - (a + 1)) * 2) (List.drop ((a + 1) * 2) (cP P)) = cP (P.drop (a + 1)) := by
    rw [cP_drop, ← hd, ← cP_len, List.take_length]
  have := scanX (n := P.length - (a + 1)) (p := fun i => mustH P lo ((a + 1) + i)) (S := halfW_L96_2_1_S P.length (cP P) (a : Int) lo hi) (fun i hi' => by
    rw [halfW_L96_2_1_S_0]
    unfold halfW_L96_2_1_S0
    rw [hw, hn, hc, pullD_some (i : Int) (by rfl) (by rfl), if_pos (by omega), guardP_pos (by omega), show ((i : Int).toNat) = i from rfl, readP (by rw [hd]; exact hi'), pullD_some (ta (P.drop (a + 1)) i, va (P.drop (a + 1)) i) (by rfl) (by rfl)]
    dsimp only
    obtain ⟨t1, t2⟩ := ta_drop P (a + 1) i
    obtain ⟨b1, b2, b3, b4⟩ := hb (a + 1 + i) (by omega)
    rw [t2, wrapJ (2 * va P (a + 1 + i)) (by omega) (by omega), natI (by omega)]
    by_cases g : 2 * va P (a + 1 + i) ≤ lo
    · rw [if_pos g, if_pos (by simpa [mustH] using g)]
    · rw [if_neg g, if_neg (by simpa [mustH] using g)]) (by
    rw [halfW_L96_2_1_S_0]
    unfold halfW_L96_2_1_S0
    rw [hw, hn, pullD_some ((P.length - (a + 1) : Nat) : Int) (by rfl) (by rfl), if_neg (by omega)]) (P.length - (a + 1)) 0 (by omega)
  exact this
theorem halfW_eq {P : List (Int × Int)} {lo hi : Int} (a : Nat) (ha : a < P.length) (h : PB P lo hi) : m_50 [.agg [lP P, iD (a : Int), iD lo, iD hi]] = some (.tup [.agg [iD ((a : Int) + 1 + fidx (fun i => mayH P hi ((a + 1) + i)) (P.length - (a + 1)) 0), iD ((a : Int) + 1 + fidx (fun i => mustH P lo ((a + 1) + i)) (P.length - (a + 1)) 0)], .one (.bool (decide (0 ≤ fidx (fun i => mustH P lo ((a + 1) + i)) (P.length - (a + 1)) 0)))]) := by
  have r1 := hf_may a ha h
  have r2 := hf_must a ha h
  have g1 := fidx_ge (fun i => mayH P hi ((a + 1) + i)) (P.length - (a + 1)) 0
  have g2 := fidx_ge (fun i => mustH P lo ((a + 1) + i)) (P.length - (a + 1)) 0
  have hl := h.len
  have hw : IntKind.i64.wrap ((a : Int) + 1) = (a : Int) + 1 := wrapJ _ (by omega) (by omega)
  rw [m_50_eq]
  unfold halfW_M
  rw [hw, guardP_pos ⟨by omega, by omega, by omega, cP_len P⟩]
  generalize fidx (fun i => mayH P hi ((a + 1) + i)) (P.length - (a + 1)) 0 = x at *
  generalize fidx (fun i => mustH P lo ((a + 1) + i)) (P.length - (a + 1)) 0 = z at *
  by_cases h1 : x < 0
  · rw [if_pos h1] at r1
    rw [bindL_some r1, if_pos rfl, pullD_some () (by rfl) (by rfl)]
    have ex : x = -1 := g1.2.2 h1
    by_cases h2 : z < 0
    · rw [if_pos h2] at r2
      have ez : z = -1 := g2.2.2 h2
      rw [bindL_some r2, if_pos rfl, pullD_some () (by rfl) (by rfl), wrapJ ((a : Int) + 1 + -1) (by omega) (by omega), ex, ez]
      try rfl
    · rw [if_neg h2] at r2
      rw [bindL_some r2, if_neg (by decide), if_pos rfl, pullD_some z (by rfl) (by rfl), wrapJ ((a : Int) + 1 + -1) (by omega) (by omega), wrapJ ((a : Int) + 1 + z) (by omega) (by omega), ex]
      try rfl
  · rw [if_neg h1] at r1
    rw [bindL_some r1, if_neg (by decide), if_pos rfl, pullD_some x (by rfl) (by rfl)]
    by_cases h2 : z < 0
    · rw [if_pos h2] at r2
      have ez : z = -1 := g2.2.2 h2
      rw [bindL_some r2, if_pos rfl, pullD_some () (by rfl) (by rfl), wrapJ ((a : Int) + 1 + x) (by omega) (by omega), wrapJ ((a : Int) + 1 + -1) (by omega) (by omega), ez]
      try rfl
    · rw [if_neg h2] at r2
      rw [bindL_some r2, if_neg (by decide), if_pos rfl, pullD_some z (by rfl) (by rfl), wrapJ ((a : Int) + 1 + x) (by omega) (by omega), wrapJ ((a : Int) + 1 + z) (by omega) (by omega)]
      try rfl
end Go.Proofs.Ytmohaohdbklkeaa
/- Figures. -/
namespace Go.Proofs.Ytmohaohdbklkeaa
open Go.Ev Go.RowKit
set_option maxRecDepth 100000
/-! ### The reference's -/
theorem pkR_go (re fa fb fc fd : Int) (k : Nat) (c : List D) (st : Int) (y : List Int) (h0 : 0 < y.length) (hl : y.length ≤ 1000) : ∀ m i, i + m = y.length →
    runR (peakR_L3_S re fa fb fc fd k c st y.length (y.map iD)) (.next 0 [iD ((atT y i : Nat) : Int), iD (i : Int)]) = some (.out 0 [iD ((pk y : Nat) : Int)]) := by
  intro m
  induction m with
  | zero =>
    intro i hi
    have : i = y.length := by omega
    subst this
    refine runR_exit ?_
    rw [peakR_L3_S_0]
    unfold peakR_L3_S0
    rw [pullD_some (((pk y : Nat) : Int), (y.length : Int)) (by rfl) (by rfl)]
    dsimp only
    rw [if_neg (by omega)]
  | succ m ih =>
    intro i hi
    have hi' : i < y.length := by omega
    have ha := atT_lt (y := y) h0 (i := i) (by omega)
    have st : peakR_L3_S re fa fb fc fd k c st y.length (y.map iD) (.next 0 [iD ((atT y i : Nat) : Int), iD (i : Int)]) = some (.next 0 [iD ((atT y (i + 1) : Nat) : Int), iD ((i + 1 : Nat) : Int)]) := by
      rw [peakR_L3_S_0]
      unfold peakR_L3_S0
      rw [pullD_some (((atT y i : Nat) : Int), (i : Int)) (by rfl) (by rfl)]
      dsimp only
      rw [if_pos (by omega), guardP_pos (by omega), readA hi', pullI, guardP_pos (by omega), readA ha, pullI, natI (by omega)]
      show _ = some (Rd.next 0 [iD (((if at' y i > at' y (atT y i) then i else atT y i) : Nat) : Int), iD ((i + 1 : Nat) : Int)])
      by_cases g : at' y i > at' y (atT y i)
      · rw [if_pos g, if_pos g]
      · rw [if_neg g, if_neg g]
    rw [runR_next st, ih (i + 1) (by omega)]
theorem peakR_eq (re : Int) (f : Q4) (l : List Q4) (st : Int) (y : List Int) (h : RX re y) : m_18 [ruD re f l, reD st y] = some (.tup [iD ((pk y : Nat) : Int), .agg [iD (at' y (pk y) - re), iD (at' y (pk y) + re)]]) := by
  obtain ⟨e0, e1, l3, l64, hb⟩ := h
  have ha : pk y < y.length := atT_lt (y := y) (by omega) (i := y.length) (Nat.le_refl _)
  obtain ⟨b1, b2⟩ := hb _ ha
  rw [m_18_eq]
  unfold peakR_M
  have hr := pkR_go re f.a f.b f.c f.d l.length (cQ l) st y (by omega) (by omega) y.length 0 (by omega)
  have hr : runR (peakR_L3_S re f.a f.b f.c f.d l.length (cQ l) st y.length (y.map iD)) (.next 0 [iD 0, iD 0]) = _ := hr
  rw [bindL_some hr, if_pos rfl, pullD_some ((pk y : Nat) : Int) (by rfl) (by rfl), guardP_pos (by omega), readA ha, pullI, pullI, wrapJ (at' y (pk y) - re) (by omega) (by omega), wrapJ (at' y (pk y) + re) (by omega) (by omega)]
theorem fidx_down {p : Nat → Bool} {n j : Nat} (h : j + 1 ≤ n) : fidx p (n - j) j = if p j = true then (j : Int) else fidx p (n - (j + 1)) (j + 1) := by
  have : n - j = (n - (j + 1)) + 1 := by omega
  rw [this]
  cases hp : p j with
  | true => rw [fidx_true hp, if_pos rfl]
  | false => rw [fidx_false hp, if_neg (by decide)]
theorem lvR_go (re fa fb fc fd : Int) (k : Nat) (c : List D) (st : Int) (y : List Int) (n lo hi : Int) (h : RX re y) (l1 : -10000 ≤ lo) (l2 : lo ≤ 10000) (h1 : -10000 ≤ hi) (h2 : hi ≤ 10000) (n1 : 0 ≤ n) (n2 : n ≤ 10) : ∀ j, j ≤ y.length →
    runR (levelR_L3_S re fa fb fc fd k c st y.length (y.map iD) n lo hi) (.next 0 [iD ((j : Int) - 1), iD (fidx (mayL (rng re y) lo n) (y.length - j) j), iD (fidx (mustL (rng re y) hi n) (y.length - j) j)]) = some (.out 0 [iD (fidx (mayL (rng re y) lo n) y.length 0), iD (fidx (mustL (rng re y) hi n) y.length 0)]) := by
  obtain ⟨e0, e1, l3, l64, hb⟩ := h
  obtain ⟨q1, q2⟩ := mulT l1 l2 n1 n2
  obtain ⟨q3, q4⟩ := mulT h1 h2 n1 n2
  intro j
  induction j with
  | zero =>
    intro _
    refine runR_exit ?_
    rw [levelR_L3_S_0]
    unfold levelR_L3_S0
    rw [pullD_some (((0 : Nat) : Int) - 1, fidx (mayL (rng re y) lo n) (y.length - 0) 0, fidx (mustL (rng re y) hi n) (y.length - 0) 0) (by rfl) (by rfl)]
    dsimp only
    rw [if_neg (by omega), Nat.sub_zero]
  | succ j ih =>
    intro hj
    have hj' : j < y.length := by omega
    obtain ⟨b1, b2⟩ := hb j hj'
    obtain ⟨t1, t2⟩ := rng_ta (e := re) hj'
    have st : levelR_L3_S re fa fb fc fd k c st y.length (y.map iD) n lo hi (.next 0 [iD (((j + 1 : Nat) : Int) - 1), iD (fidx (mayL (rng re y) lo n) (y.length - (j + 1)) (j + 1)), iD (fidx (mustL (rng re y) hi n) (y.length - (j + 1)) (j + 1))]) = some (.next 0 [iD ((j : Int) - 1), iD (fidx (mayL (rng re y) lo n) (y.length - j) j), iD (fidx (mustL (rng re y) hi n) (y.length - j) j)]) := by
      have ep : mayL (rng re y) lo n j = decide (10 * (at' y j + re) ≥ n * lo) := by show decide _ = _; rw [t2]
      have eq' : mustL (rng re y) hi n j = decide (10 * (at' y j - re) ≥ n * hi) := by show decide _ = _; rw [t1]
      rw [fidx_down (p := mayL (rng re y) lo n) hj, fidx_down (p := mustL (rng re y) hi n) hj, ep, eq']
      generalize fidx (mayL (rng re y) lo n) (y.length - (j + 1)) (j + 1) = x
      generalize fidx (mustL (rng re y) hi n) (y.length - (j + 1)) (j + 1) = z
      rw [show ((j + 1 : Nat) : Int) - 1 = (j : Int) by omega, levelR_L3_S_0]
      unfold levelR_L3_S0
      rw [pullD_some ((j : Int), x, z) (by rfl) (by rfl)]
      dsimp only
      rw [if_pos (by omega), guardP_pos (by omega), readA hj', pullI, wrapJ (at' y j + re) (by omega) (by omega), wrapJ (10 * (at' y j + re)) (by omega) (by omega), wrapJ (n * lo) (by omega) (by omega), pullI, pullI, wrapJ (at' y j - re) (by omega) (by omega), wrapJ (10 * (at' y j - re)) (by omega) (by omega), wrapJ (n * hi) (by omega) (by omega), wrapJ ((j : Int) - 1) (by omega) (by omega)]
      by_cases g1 : 10 * (at' y j + re) ≥ n * lo
      · by_cases g2 : 10 * (at' y j - re) ≥ n * hi
        · rw [if_pos g1, if_pos g2, decide_eq_true g1, decide_eq_true g2, if_pos rfl, if_pos rfl]
        · rw [if_pos g1, if_neg g2, decide_eq_true g1, decide_eq_false g2, if_pos rfl, if_neg (by decide)]
      · by_cases g2 : 10 * (at' y j - re) ≥ n * hi
        · rw [if_neg g1, if_pos g2, decide_eq_false g1, decide_eq_true g2, if_neg (by decide), if_pos rfl]
        · rw [if_neg g1, if_neg g2, decide_eq_false g1, decide_eq_false g2, if_neg (by decide), if_neg (by decide)]
    rw [runR_next st, ih (by omega)]
theorem levelR_eq (re : Int) (f : Q4) (l : List Q4) (st : Int) (y : List Int) (n lo hi : Int) (h : RX re y) (l1 : -10000 ≤ lo) (l2 : lo ≤ 10000) (h1 : -10000 ≤ hi) (h2 : hi ≤ 10000) (n1 : 0 ≤ n) (n2 : n ≤ 10) : m_51 [ruD re f l, reD st y, iD n, .agg [iD lo, iD hi]] = some (.agg [iD (fidx (mayL (rng re y) lo n) y.length 0), iD (fidx (mustL (rng re y) hi n) y.length 0)]) := by
  have hl := h.l64
  rw [m_51_eq]
  unfold levelR_M
  have hr := lvR_go re f.a f.b f.c f.d l.length (cQ l) st y n lo hi h l1 l2 h1 h2 n1 n2 y.length (Nat.le_refl _)
  rw [Nat.sub_self] at hr
  have hr : runR (levelR_L3_S re f.a f.b f.c f.d l.length (cQ l) st y.length (y.map iD) n lo hi) (.next 0 [iD ((y.length : Int) - 1), iD (-1), iD (-1)]) = _ := hr
  rw [wrapJ ((y.length : Int) - 1) (by omega) (by omega), bindL_some hr, if_pos rfl, pullD_some (fidx (mayL (rng re y) lo n) y.length 0, fidx (mustL (rng re y) hi n) y.length 0) (by rfl) (by rfl)]
theorem hfR_go (re fa fb fc fd : Int) (k : Nat) (c : List D) (st : Int) (y : List Int) (a : Nat) (lo hi : Int) (h : RX re y) (ha : a < y.length) : ∀ d j, j = a + 1 + d → j ≤ y.length →
    runR (halfR_L3_S re fa fb fc fd k c st y.length (y.map iD) (a : Int) lo hi) (.next 0 [iD ((j : Int) - 1), iD (fidx (mayH (rng re y) hi) (y.length - j) j), iD (fidx (mustH (rng re y) lo) (y.length - j) j)]) = some (.out 0 [iD (fidx (mayH (rng re y) hi) (y.length - (a + 1)) (a + 1)), iD (fidx (mustH (rng re y) lo) (y.length - (a + 1)) (a + 1))]) := by
  obtain ⟨e0, e1, l3, l64, hb⟩ := h
  intro d
  induction d with
  | zero =>
    intro j hj _
    have : j = a + 1 := by omega
    subst this
    refine runR_exit ?_
    rw [halfR_L3_S_0]
    unfold halfR_L3_S0
    rw [pullD_some (((a + 1 : Nat) : Int) - 1, fidx (mayH (rng re y) hi) (y.length - (a + 1)) (a + 1), fidx (mustH (rng re y) lo) (y.length - (a + 1)) (a + 1)) (by rfl) (by rfl)]
    dsimp only
    rw [if_neg (by omega)]
  | succ d ih =>
    intro j' hj0 hj
    obtain ⟨j, rfl⟩ : ∃ j, j' = j + 1 := ⟨j' - 1, by omega⟩
    have hj' : j < y.length := by omega
    obtain ⟨b1, b2⟩ := hb j hj'
    obtain ⟨t1, t2⟩ := rng_ta (e := re) hj'
    have st : halfR_L3_S re fa fb fc fd k c st y.length (y.map iD) (a : Int) lo hi (.next 0 [iD (((j + 1 : Nat) : Int) - 1), iD (fidx (mayH (rng re y) hi) (y.length - (j + 1)) (j + 1)), iD (fidx (mustH (rng re y) lo) (y.length - (j + 1)) (j + 1))]) = some (.next 0 [iD ((j : Int) - 1), iD (fidx (mayH (rng re y) hi) (y.length - j) j), iD (fidx (mustH (rng re y) lo) (y.length - j) j)]) := by
      have ep : mayH (rng re y) hi j = decide (2 * (at' y j - re) ≤ hi) := by show decide _ = _; rw [t1]
      have eq' : mustH (rng re y) lo j = decide (2 * (at' y j + re) ≤ lo) := by show decide _ = _; rw [t2]
      rw [fidx_down (p := mayH (rng re y) hi) hj, fidx_down (p := mustH (rng re y) lo) hj, ep, eq']
      generalize fidx (mayH (rng re y) hi) (y.length - (j + 1)) (j + 1) = x
      generalize fidx (mustH (rng re y) lo) (y.length - (j + 1)) (j + 1) = z
      rw [show ((j + 1 : Nat) : Int) - 1 = (j : Int) by omega, halfR_L3_S_0]
      unfold halfR_L3_S0
      rw [pullD_some ((j : Int), x, z) (by rfl) (by rfl)]
      dsimp only
      rw [if_pos (by omega), guardP_pos (by omega), readA hj', pullI, wrapJ (at' y j - re) (by omega) (by omega), wrapJ (2 * (at' y j - re)) (by omega) (by omega), pullI, pullI, wrapJ (at' y j + re) (by omega) (by omega), wrapJ (2 * (at' y j + re)) (by omega) (by omega), wrapJ ((j : Int) - 1) (by omega) (by omega)]
      by_cases g1 : 2 * (at' y j - re) ≤ hi
      · by_cases g2 : 2 * (at' y j + re) ≤ lo
        · rw [if_pos g1, if_pos g2, decide_eq_true g1, decide_eq_true g2, if_pos rfl, if_pos rfl]
        · rw [if_pos g1, if_neg g2, decide_eq_true g1, decide_eq_false g2, if_pos rfl, if_neg (by decide)]
      · by_cases g2 : 2 * (at' y j + re) ≤ lo
        · rw [if_neg g1, if_pos g2, decide_eq_false g1, decide_eq_true g2, if_neg (by decide), if_pos rfl]
        · rw [if_neg g1, if_neg g2, decide_eq_false g1, decide_eq_false g2, if_neg (by decide), if_neg (by decide)]
    rw [runR_next st, ih j (by omega) (by omega)]
theorem halfR_eq (re : Int) (f : Q4) (l : List Q4) (st : Int) (y : List Int) (a : Nat) (lo hi : Int) (h : RX re y) (ha : a < y.length) : m_52 [ruD re f l, reD st y, iD (a : Int), .agg [iD lo, iD hi]] = some (.agg [iD (fidx (mayH (rng re y) hi) (y.length - (a + 1)) (a + 1)), iD (fidx (mustH (rng re y) lo) (y.length - (a + 1)) (a + 1))]) := by
  have hl := h.l64
  rw [m_52_eq]
  unfold halfR_M
  have hr := hfR_go re f.a f.b f.c f.d l.length (cQ l) st y a lo hi h ha (y.length - (a + 1)) y.length (by omega) (Nat.le_refl _)
  rw [Nat.sub_self] at hr
  have hr : runR (halfR_L3_S re f.a f.b f.c f.d l.length (cQ l) st y.length (y.map iD) (a : Int) lo hi) (.next 0 [iD ((y.length : Int) - 1), iD (-1), iD (-1)]) = _ := hr
  rw [wrapJ ((y.length : Int) - 1) (by omega) (by omega), bindL_some hr, if_pos rfl, pullD_some (fidx (mayH (rng re y) hi) (y.length - (a + 1)) (a + 1), fidx (mustH (rng re y) lo) (y.length - (a + 1)) (a + 1)) (by rfl) (by rfl)]
/-! ### Figures -/
abbrev pLo (e : Int) (y : List Int) : Int := at' y (pk y) - e
abbrev pHi (e : Int) (y : List Int) : Int := at' y (pk y) + e
abbrev l3p (e : Int) (y : List Int) : Int := fidx (mayL (rng e y) (pLo e y) 3) y.length 0
abbrev l3q (e : Int) (y : List Int) : Int := fidx (mustL (rng e y) (pHi e y) 3) y.length 0
abbrev l9p (e : Int) (y : List Int) : Int := fidx (mayL (rng e y) (pLo e y) 9) y.length 0
abbrev l9q (e : Int) (y : List Int) : Int := fidx (mustL (rng e y) (pHi e y) 9) y.length 0
abbrev hp (e : Int) (y : List Int) : Int := fidx (mayH (rng e y) (pHi e y)) (y.length - (pk y + 1)) (pk y + 1)
abbrev hq (e : Int) (y : List Int) : Int := fidx (mustH (rng e y) (pLo e y)) (y.length - (pk y + 1)) (pk y + 1)
def figD (e : Int) (y : List Int) : D := if pLo e y ≤ 0 then .tup [.agg [iD 0, iD 0, iD 0, iD 0, iD 0, iD 0, iD 0, iD 0, iD 0], iD 21] else if l3q e y < 0 ∨ l9q e y < 0 ∨ hq e y < 0 then .tup [.agg [iD 0, iD 0, iD 0, iD 0, iD 0, iD 0, iD 0, iD 0, iD 0], iD 12] else .tup [.agg [iD ((pk y : Nat) : Int), iD (pLo e y), iD (pHi e y), iD (l3p e y), iD (l3q e y), iD (l9p e y), iD (l9q e y), iD (hp e y), iD (hq e y)], iD 0]
def botE (re : Int) (f : Q4) (l : List Q4) (st : Int) (y : List Int) : Int := if rulE re f l = 0 then recE st y else rulE re f l
theorem botE_first (re : Int) (f : Q4) (l : List Q4) (st : Int) (y : List Int) : firstV [rulE re f l, recE st y] = botE re f l st y := by
  unfold botE firstV firstV
  by_cases g : rulE re f l = 0
  · rw [if_pos g, if_pos g]
    split
    · rename_i h; rw [h]; rfl
    · rfl
  · rw [if_neg g, if_neg g]
theorem botE_ok {re : Int} {f : Q4} {l : List Q4} {st : Int} {y : List Int} (h : botE re f l st y = 0) : rulE re f l = 0 ∧ recE st y = 0 := by
  unfold botE at h
  split at h
  · rename_i g; exact ⟨g, h⟩
  · contradiction
theorem bothErr_eq (re : Int) (f : Q4) (l : List Q4) (st : Int) (y : List Int) (hl : l.length ≤ 1000) (hy : y.length ≤ 1000) : m_17 [ruD re f l, reD st y] = some (iD (botE re f l st y)) := by
  rw [m_17_eq]
  unfold bothErr_M botE
  have a1 : m_53 [.agg [iD re, iD f.a, iD f.b, iD f.c, iD f.d, .list l.length (cQ l)]] = _ := rulesErr_eq re f l hl
  have a2 : m_41 [.agg [iD st, .list y.length (y.map iD)]] = _ := recErr_eq st y hy
  rw [a1, pullI, a2, pullI]
  by_cases g : rulE re f l = 0
  · rw [if_neg (fun h => h g), if_pos g]
  · rw [if_pos g, if_neg g]
theorem RX.pb {e : Int} {y : List Int} (h : RX e y) : PB (rng e y) (pLo e y) (pHi e y) := by
  obtain ⟨e0, e1, l3, l64, hb⟩ := h
  have ha : pk y < y.length := atT_lt (y := y) (by omega) (i := y.length) (Nat.le_refl _)
  obtain ⟨b1, b2⟩ := hb _ ha
  have p1 : pLo e y = at' y (pk y) - e := rfl
  have p2 : pHi e y = at' y (pk y) + e := rfl
  refine ⟨by rw [rng_len]; omega, by omega, by omega, by omega, by omega, fun i hi => ?_⟩
  rw [rng_len] at hi
  obtain ⟨t1, t2⟩ := rng_ta (e := e) hi
  obtain ⟨b3, b4⟩ := hb i hi
  rw [t1, t2]
  omega
theorem ta_va {e : Int} (he : 0 ≤ e) (y : List Int) (i : Nat) : ta (rng e y) i ≤ va (rng e y) i := by
  rcases Nat.lt_or_ge i y.length with h | h
  · obtain ⟨t1, t2⟩ := rng_ta (e := e) h
    rw [t1, t2]; omega
  · have : (rng e y)[i]? = none := by rw [List.getElem?_eq_none_iff, rng_len]; exact h
    unfold ta va
    rw [this]
    decide
theorem peakOf_eq (re : Int) (f : Q4) (l : List Q4) (st : Int) (y : List Int) (hl : l.length ≤ 1000) (hy : y.length ≤ 1000) : m_12 [ruD re f l, reD st y] = some (if botE re f l st y = 0 then .tup [iD ((pk y : Nat) : Int), .agg [iD (pLo re y), iD (pHi re y)], iD 0] else .tup [iD 0, .agg [iD 0, iD 0], iD (botE re f l st y)]) := by
  rw [m_12_eq]
  unfold peakOf_M
  have a1 : m_46 [.agg [iD re, iD f.a, iD f.b, iD f.c, iD f.d, .list l.length (cQ l)]] = _ := chkRules_eq re f l hl
  have a2 : m_47 [.agg [iD st, .list y.length (y.map iD)]] = _ := chkRecord_eq st y hy
  rw [a1, pullI, a2, pullI, f2, botE_first, pullI]
  by_cases g : botE re f l st y = 0
  · obtain ⟨g1, g2⟩ := botE_ok g
    have a3 : m_48 [.agg [iD re, iD f.a, iD f.b, iD f.c, iD f.d, .list l.length (cQ l)], .agg [iD st, .list y.length (y.map iD)]] = _ := samples_eq re f l st y (RX.of g1 g2)
    rw [if_neg (fun h => h g), if_pos g, a3, pullD_some ((rng re y).length, cP (rng re y), ((pk y : Nat) : Int), pLo re y, pHi re y) (by rfl) (by rfl)]
  · rw [if_pos g, if_neg g]
theorem figuresOf_eq (re : Int) (f : Q4) (l : List Q4) (st : Int) (y : List Int) (hl : l.length ≤ 1000) (hy : y.length ≤ 1000) : m_15 [ruD re f l, reD st y] = some (if botE re f l st y = 0 then figD re y else .tup [.agg [iD 0, iD 0, iD 0, iD 0, iD 0, iD 0, iD 0, iD 0, iD 0], iD (botE re f l st y)]) := by
  rw [m_15_eq]
  unfold figuresOf_M
  have a1 : m_46 [.agg [iD re, iD f.a, iD f.b, iD f.c, iD f.d, .list l.length (cQ l)]] = _ := chkRules_eq re f l hl
  have a2 : m_47 [.agg [iD st, .list y.length (y.map iD)]] = _ := chkRecord_eq st y hy
  rw [a1, pullI, a2, pullI, f2, botE_first, pullI]
  by_cases g : botE re f l st y = 0
  · obtain ⟨g1, g2⟩ := botE_ok g
    have hx := RX.of g1 g2
    have hpb := hx.pb
    have hpk : pk y < y.length := atT_lt (y := y) (by have := hx.l3; omega) (i := y.length) (Nat.le_refl _)
    have a3 : m_48 [.agg [iD re, iD f.a, iD f.b, iD f.c, iD f.d, .list l.length (cQ l)], .agg [iD st, .list y.length (y.map iD)]] = _ := samples_eq re f l st y hx
    have a4 : m_49 [.agg [.list (rng re y).length (cP (rng re y)), iD ((pk y : Nat) : Int), iD (pLo re y), iD (pHi re y)], iD 3] = _ := levelW_eq (pk y) 3 hpb (by decide) (by decide)
    have a5 : m_49 [.agg [.list (rng re y).length (cP (rng re y)), iD ((pk y : Nat) : Int), iD (pLo re y), iD (pHi re y)], iD 9] = _ := levelW_eq (pk y) 9 hpb (by decide) (by decide)
    have a6 : m_50 [.agg [.list (rng re y).length (cP (rng re y)), iD ((pk y : Nat) : Int), iD (pLo re y), iD (pHi re y)]] = _ := halfW_eq (pk y) (by rw [rng_len]; exact hpk) hpb
    rw [rng_len] at a4 a5 a6
    rw [if_neg (fun h => h g), if_pos g, a3, pullD_some ((rng re y).length, cP (rng re y), ((pk y : Nat) : Int), pLo re y, pHi re y) (by rfl) (by rfl)]
    dsimp only
    unfold figD
    by_cases h0 : pLo re y ≤ 0
    · rw [if_pos h0, if_pos h0]
    rw [if_neg h0, if_neg h0, rng_len, a4, pullD_some (l3p re y, l3q re y, decide (0 ≤ l3q re y)) (by rfl) (by rfl)]
    dsimp only
    rw [a5, pullD_some (l9p re y, l9q re y, decide (0 ≤ l9q re y)) (by rfl) (by rfl)]
    dsimp only
    have s1 := fidx_shift (mayH (rng re y) (pHi re y)) (pk y + 1) (y.length - (pk y + 1)) 0
    have s2 := fidx_shift (mustH (rng re y) (pLo re y)) (pk y + 1) (y.length - (pk y + 1)) 0
    rw [Nat.add_zero] at s1 s2
    have s1 : fidx (fun j => mayH (rng re y) (pHi re y) ((pk y + 1) + j)) (y.length - (pk y + 1)) 0 = if hp re y < 0 then -1 else hp re y - ((pk y + 1 : Nat) : Int) := s1
    have s2 : fidx (fun j => mustH (rng re y) (pLo re y) ((pk y + 1) + j)) (y.length - (pk y + 1)) 0 = if hq re y < 0 then -1 else hq re y - ((pk y + 1 : Nat) : Int) := s2
    have im : 0 ≤ hq re y → 0 ≤ hp re y := fun h => fidx_imp (p := mayH (rng re y) (pHi re y)) (q := mustH (rng re y) (pLo re y)) (fun i hi => by
      have h1 := ta_va hx.e0 y i
      have he := hx.e0
      have p1 : pLo re y = at' y (pk y) - re := rfl
      have p2 : pHi re y = at' y (pk y) + re := rfl
      simp only [decide_eq_true_eq] at hi ⊢
      omega) h
    rw [a6]
    generalize hz : fidx (fun j => mustH (rng re y) (pLo re y) ((pk y + 1) + j)) (y.length - (pk y + 1)) 0 = z at *
    generalize hw : fidx (fun j => mayH (rng re y) (pHi re y) ((pk y + 1) + j)) (y.length - (pk y + 1)) 0 = w at *
    rw [pullD_some (((pk y : Nat) : Int) + 1 + w, ((pk y : Nat) : Int) + 1 + z, decide (0 ≤ z)) (by rfl) (by rfl)]
    dsimp only
    by_cases c1 : l3q re y < 0
    · rw [if_pos (by simp; omega), if_pos (.inl c1)]
    rw [if_neg (by simp; omega)]
    by_cases c2 : l9q re y < 0
    · rw [if_pos (by simp; omega), if_pos (.inr (.inl c2))]
    rw [if_neg (by simp; omega)]
    by_cases c3 : hq re y < 0
    · rw [if_pos c3] at s2
      rw [if_pos (by simp; omega), if_pos (.inr (.inr c3))]
    · rw [if_neg c3] at s2
      have c4 := im (by omega)
      rw [if_neg (show ¬ hp re y < 0 by omega)] at s1
      have hq0 : hq re y = -1 ∨ (((pk y + 1 : Nat) : Int) ≤ hq re y ∧ _) := fidx_range (mustH (rng re y) (pLo re y)) (y.length - (pk y + 1)) (pk y + 1)
      have e1 : ((pk y : Nat) : Int) + 1 + w = hp re y := by rw [s1]; omega
      have e2 : ((pk y : Nat) : Int) + 1 + z = hq re y := by rw [s2]; omega
      rw [if_neg (by
        simp only [decide_eq_false_iff_not, Decidable.not_not]
        rcases hq0 with h9 | ⟨h9, -⟩
        · exact absurd h9 (by omega)
        · rw [s2]; omega), e1, e2, if_neg (by omega)]
  · rw [if_pos g, if_neg g]
theorem figuresR_eq (re : Int) (f : Q4) (l : List Q4) (st : Int) (y : List Int) (hl : l.length ≤ 1000) (hy : y.length ≤ 1000) : m_16 [ruD re f l, reD st y] = some (if botE re f l st y = 0 then figD re y else .tup [.agg [iD 0, iD 0, iD 0, iD 0, iD 0, iD 0, iD 0, iD 0, iD 0], iD (botE re f l st y)]) := by
  rw [m_16_eq]
  unfold figuresR_M
  have a1 : m_17 [.agg [iD re, iD f.a, iD f.b, iD f.c, iD f.d, .list l.length (cQ l)], .agg [iD st, .list y.length (y.map iD)]] = _ := bothErr_eq re f l st y hl hy
  rw [a1, pullI]
  by_cases g : botE re f l st y = 0
  · obtain ⟨g1, g2⟩ := botE_ok g
    have hx := RX.of g1 g2
    have hpb := hx.pb
    have hpk : pk y < y.length := atT_lt (y := y) (by have := hx.l3; omega) (i := y.length) (Nat.le_refl _)
    have a3 : m_18 [.agg [iD re, iD f.a, iD f.b, iD f.c, iD f.d, .list l.length (cQ l)], .agg [iD st, .list y.length (y.map iD)]] = _ := peakR_eq re f l st y hx
    have a4 : m_51 [.agg [iD re, iD f.a, iD f.b, iD f.c, iD f.d, .list l.length (cQ l)], .agg [iD st, .list y.length (y.map iD)], iD 3, .agg [iD (pLo re y), iD (pHi re y)]] = _ := levelR_eq re f l st y 3 (pLo re y) (pHi re y) hx hpb.l1 hpb.l2 hpb.h1 hpb.h2 (by decide) (by decide)
    have a5 : m_51 [.agg [iD re, iD f.a, iD f.b, iD f.c, iD f.d, .list l.length (cQ l)], .agg [iD st, .list y.length (y.map iD)], iD 9, .agg [iD (pLo re y), iD (pHi re y)]] = _ := levelR_eq re f l st y 9 (pLo re y) (pHi re y) hx hpb.l1 hpb.l2 hpb.h1 hpb.h2 (by decide) (by decide)
    have a6 : m_52 [.agg [iD re, iD f.a, iD f.b, iD f.c, iD f.d, .list l.length (cQ l)], .agg [iD st, .list y.length (y.map iD)], iD ((pk y : Nat) : Int), .agg [iD (pLo re y), iD (pHi re y)]] = _ := halfR_eq re f l st y (pk y) (pLo re y) (pHi re y) hx hpk
    rw [if_neg (fun h => h g), if_pos g, a3, pullD_some (((pk y : Nat) : Int), pLo re y, pHi re y) (by rfl) (by rfl)]
    dsimp only
    unfold figD
    by_cases h0 : pLo re y ≤ 0
    · rw [if_pos h0, if_pos h0]
    rw [if_neg h0, if_neg h0, a4, pullD_some (l3p re y, l3q re y) (by rfl) (by rfl)]
    dsimp only
    rw [a5, pullD_some (l9p re y, l9q re y) (by rfl) (by rfl)]
    dsimp only
    rw [a6, pullD_some (hp re y, hq re y) (by rfl) (by rfl)]
    dsimp only
    by_cases c1 : l3q re y < 0
    · rw [if_pos c1, if_pos (.inl c1)]
    rw [if_neg c1]
    by_cases c2 : l9q re y < 0
    · rw [if_pos c2, if_pos (.inr (.inl c2))]
    rw [if_neg c2]
    by_cases c3 : hq re y < 0
    · rw [if_pos c3, if_pos (.inr (.inr c3))]
    · rw [if_neg c3, if_neg (by omega)]
  · rw [if_pos g, if_neg g]
theorem figD_in (e : Int) (y : List Int) : ∃ a b c d u v w x z r : Int, figD e y = .tup [.agg [iD a, iD b, iD c, iD d, iD u, iD v, iD w, iD x, iD z], iD r] := by
  unfold figD
  split
  · exact ⟨_, _, _, _, _, _, _, _, _, _, rfl⟩
  split
  · exact ⟨_, _, _, _, _, _, _, _, _, _, rfl⟩
  · exact ⟨_, _, _, _, _, _, _, _, _, _, rfl⟩
theorem law3_eq (re : Int) (f : Q4) (l : List Q4) (st : Int) (y : List Int) : m_3 [ruD re f l, reD st y] = some (.one (.bool true)) := by
  rw [m_3_eq]
  unfold law3_M
  have a1 : m_10 [.agg [iD st, .list y.length (y.map iD)]] = _ := few_eq st y
  have a2 : m_11 [.agg [iD re, iD f.a, iD f.b, iD f.c, iD f.d, .list l.length (cQ l)]] = _ := fewF_eq re f l
  rw [m_9_eq, pullB, if_neg (by decide), a1, pullB]
  by_cases g1 : ¬ (y.length : Int) ≤ 70
  · rw [if_pos (by simpa using g1)]
  have g1 := Classical.not_not.1 g1
  rw [if_neg (by simpa using g1), a2, pullB]
  by_cases g2 : ¬ (l.length : Int) ≤ 6
  · rw [if_pos (by simpa using g2)]
  have g2 := Classical.not_not.1 g2
  have hl : l.length ≤ 1000 := by omega
  have hy : y.length ≤ 1000 := by omega
  have a3 : m_13 [.agg [iD re, iD f.a, iD f.b, iD f.c, iD f.d, .list l.length (cQ l)]] = _ := copyRules_eq re f l hl
  have a4 : m_14 [.agg [iD st, .list y.length (y.map iD)]] = _ := copyRecord_eq st y hy
  have a5 : m_12 [.agg [iD re, iD f.a, iD f.b, iD f.c, iD f.d, .list l.length (cQ l)], .agg [iD st, .list y.length (y.map iD)]] = _ := peakOf_eq re f l st y hl hy
  have a6 : m_15 [.agg [iD re, iD f.a, iD f.b, iD f.c, iD f.d, .list l.length (cQ l)], .agg [iD st, .list y.length (y.map iD)]] = _ := figuresOf_eq re f l st y hl hy
  have a7 : m_16 [.agg [iD re, iD f.a, iD f.b, iD f.c, iD f.d, .list l.length (cQ l)], .agg [iD st, .list y.length (y.map iD)]] = _ := figuresR_eq re f l st y hl hy
  have a8 : m_17 [.agg [iD re, iD f.a, iD f.b, iD f.c, iD f.d, .list l.length (cQ l)], .agg [iD st, .list y.length (y.map iD)]] = _ := bothErr_eq re f l st y hl hy
  rw [if_neg (by simpa using g2), a3, pullD_some (re, f.a, f.b, f.c, f.d, l.length, cQ l) (by rfl) (by rfl)]
  dsimp only
  rw [a4, pullD_some (st, y.length, y.map iD) (by rfl) (by rfl)]
  dsimp only
  rw [a5]
  by_cases g : botE re f l st y = 0
  · obtain ⟨h1, h2⟩ := botE_ok g
    have a9 : m_18 [.agg [iD re, iD f.a, iD f.b, iD f.c, iD f.d, .list l.length (cQ l)], .agg [iD st, .list y.length (y.map iD)]] = _ := peakR_eq re f l st y (RX.of h1 h2)
    obtain ⟨a, b, c, d, u, v, w, x, z, r, hfig⟩ := figD_in re y
    rw [if_pos g] at a6 a7
    rw [hfig] at a6 a7
    rw [if_pos g, pullD_some (((pk y : Nat) : Int), pLo re y, pHi re y, (0 : Int)) (by rfl) (by rfl)]
    dsimp only
    rw [pullD_some (re, f.a, f.b, f.c, f.d, l.length, cQ l) (by rfl) (by rfl)]
    dsimp only
    rw [pullD_some (st, y.length, y.map iD) (by rfl) (by rfl)]
    dsimp only
    rw [a6, pullD_some (a, b, c, d, u, v, w, x, z, r) (by rfl) (by rfl)]
    dsimp only
    rw [a7, pullD_some (a, b, c, d, u, v, w, x, z, r) (by rfl) (by rfl)]
    dsimp only
    rw [if_neg (by simp), if_neg (by simp), a8, pullI, g, if_neg (by simp), a9, pullD_some (((pk y : Nat) : Int), pLo re y, pHi re y) (by rfl) (by rfl)]
    dsimp only
    rw [if_pos rfl, if_pos rfl]
    simp
  · rw [if_neg g] at a6 a7
    rw [if_neg g, pullD_some ((0 : Int), (0 : Int), (0 : Int), botE re f l st y) (by rfl) (by rfl)]
    dsimp only
    rw [pullD_some (re, f.a, f.b, f.c, f.d, l.length, cQ l) (by rfl) (by rfl)]
    dsimp only
    rw [pullD_some (st, y.length, y.map iD) (by rfl) (by rfl)]
    dsimp only
    rw [a6, pullD_some ((0 : Int), (0 : Int), (0 : Int), (0 : Int), (0 : Int), (0 : Int), (0 : Int), (0 : Int), (0 : Int), botE re f l st y) (by rfl) (by rfl)]
    dsimp only
    rw [a7, pullD_some ((0 : Int), (0 : Int), (0 : Int), (0 : Int), (0 : Int), (0 : Int), (0 : Int), (0 : Int), (0 : Int), botE re f l st y) (by rfl) (by rfl)]
    dsimp only
    rw [if_neg (by simp), if_neg (by simp), a8, pullI, if_pos g, if_pos rfl, if_pos rfl]
    simp
theorem law3_con (re : Int) (f : Q4) (l : List Q4) (st : Int) (y : List Int) : Con 3 [ruD re f l, reD st y] (.one (.bool true)) := m_3_ok (law3_eq re f l st y)
end Go.Proofs.Ytmohaohdbklkeaa
/- WaveFigures: what the runs give, for every argument. -/
namespace Go.Proofs.Ytmohaohdbklkeaa.waveFigures
open Go.ChangeShapes Go.WideShapes Go.ChangeAt Go.RowKit Go.Joins Go.Ev
set_option maxRecDepth 100000 in
/-- WHAT THE RUNS GIVE, FOR EVERY ARGUMENT AND EVERY WORLD THAT HOLDS THE TABLES. -/
theorem contract (H : Type) (enc : TypeId × Value → H) (W : World) (base : Nat) (args : Array Value) (ds gs : List (DataW H)) (before : List MemPlace)
    (hval : ∀ (j : Nat) t v, Try.f3.params[j]? = some t → args[j]? = some v → Value.okWide Try.prog W .any base t v)
    (hW : DataW.Whole enc Try.prog Try.f3.params.toList Rows.waveFiguresSpec.vars false W args.toList ds gs before) (hL : laidMetH Try.prog Rows.waveFiguresRow.laid W) :
    Calls Try.prog 3 args W fun e W' => ∃ v, e = .returned v ∧ Rows.waveFiguresSpec.post enc Try.prog Try.f3 false true false false W args v W' := by
  have hW' := hW
  have hlt := hW.lt
  obtain ⟨p, q, hA0, hV, rfl, hfz, hnd⟩ := hW
  have hA : DataW.TrodAll enc Try.prog W 0 (fun _ => true) true Try.f3.params.toList args.toList ds p := hA0
  rw [Try.params3] at hA hval
  obtain ⟨v0, vs0, d0, ds0, p0, q0, hargs, rfl, rfl, h0, r0⟩ := trodAll_cons hA
  obtain ⟨v1, vs1, d1, ds1, p1, q1, rfl, rfl, rfl, h1, r1⟩ := trodAll_cons r0
  obtain ⟨rfl, rfl, rfl⟩ := trodAll_nil r1
  obtain rfl : args = #[v0, v1] := by cases args; simp_all
  obtain ⟨rfl, rfl⟩ := trodVars_none hV
  obtain ⟨e0, o0, k0⟩ := open_agg (ls := [.int .i64, .int .i64, .int .i64, .int .i64, .int .i64, .sl [.int .i64, .int .i64, .int .i64, .int .i64]]) 8 (by kernel_rfl) (by kernel_rfl) (by kernel_rfl) (hval 0 28 v0 rfl rfl) h0
  obtain ⟨re, f, l, rfl⟩ := rul_of o0
  obtain ⟨e1, o1, k1⟩ := open_agg (ls := [.int .i64, .sl [.int .i64]]) 8 (by kernel_rfl) (by kernel_rfl) (by kernel_rfl) (hval 1 31 v1 rfl rfl) h1
  obtain ⟨st, y, rfl⟩ := rec_of o1
  have hr : RpL (fun _ => True) W [.agg [.one (.int .i64 re), .one (.int .i64 f.a), .one (.int .i64 f.b), .one (.int .i64 f.c), .one (.int .i64 f.d), .list l.length (cQ l)], .agg [.one (.int .i64 st), lD y]] [v0, v1] := by
    simp only [RpL]
    exact ⟨v0, _, rfl, k0, ⟨v1, _, rfl, k1, rfl⟩⟩
  refine (law3_con re f l st y W (fun _ => True) _ tabs0 hr).mono fun e W' ⟨v, he, hv, hg⟩ => ?_
  simp only [Rp] at hv
  subst he
  subst hv
  have hlaid : laidOutB Try.prog = true := by kernel_rfl
  exact ⟨_, rfl, post_below (pa := (p0 ++ (p1 ++ []))) (pv := []) hW' (fun _ _ _ => trodAll_cons_mk (shut_bool Try.underlying4 _) trodAll_mk0) (fun sp hsp => by
    rw [Try.params3]
    exact trodAll_cons_mk (stays hlaid (by kernel_rfl) (of_decide_eq_true (by kernel_rfl)) h0 hg (fun x hx => hlt x (by simp only [List.mem_append]; left; left; exact hx)) (fun x hx => hsp x (by simp only [List.mem_append]; left; left; exact hx))) (trodAll_cons_mk (stays hlaid (by kernel_rfl) (of_decide_eq_true (by kernel_rfl)) h1 hg (fun x hx => hlt x (by simp only [List.mem_append]; left; right; left; exact hx)) (fun x hx => hsp x (by simp only [List.mem_append]; left; right; left; exact hx))) (trodAll_mk0))) (fun _ _ => rfl) rfl
    hg (ok_one (by kernel_rfl) rfl (okWide_bool_mk Try.underlying4 _))⟩
end Go.Proofs.Ytmohaohdbklkeaa.waveFigures
/- WaveFigures: closed facts of the witness. -/
namespace Go.Proofs.Ytmohaohdbklkeaa.waveFigures
open Go.ChangeShapes Go.WideShapes Go.ChangeAt Go.RowKit Go.Joins
/-- THE WITNESS's ARGUMENTS. -/
noncomputable def args0 : Array Value := #[.agg #[.int .i64 0, .int .i64 0, .int .i64 0, .int .i64 0, .int .i64 0, .slice none 0 0], .agg #[.int .i64 0, .slice none 0 0]]
/-- A WORLD FOR THE WITNESS: the heap that the program's own initialisers leave. -/
noncomputable def start (os : Os) : World := World.doorLaid Try.prog 400 os
theorem laid_met (os : Os) : laidMet Try.prog Rows.waveFiguresRow.laid ((start os).forCall (fun _ _ => 0) ⟨#[], args0, []⟩).memory := ⟨[], rfl, List.nodup_nil, fun _ _ h => by cases h⟩
theorem reads (os : Os) {H : Type} (enc : TypeId × Value → H) : ∃ places, DataW.whole enc Try.prog ((start os).forCall (fun _ _ => 0) ⟨#[], args0, []⟩).memory Try.f3.params.toList Rows.waveFiguresSpec.vars false args0.toList 8 = some ([.agg [.lit (.int .i64 0), .agg [.agg [.lit (.int .i64 0), .lit (.int .i64 0)], .agg [.lit (.int .i64 0), .lit (.int .i64 0)]], .nil], .agg [.lit (.int .i64 0), .nil]], [], places) :=
  ⟨[], by kernel_rfl⟩
theorem vB (os : Os) : ((start os).forCall (fun _ _ => 0) ⟨#[], args0, []⟩).variablesB Try.prog = true := by kernel_rfl
theorem rB (os : Os) : (((start os).forCall (fun _ _ => 0) ⟨#[], args0, []⟩).heap.toList.drop Try.prog.globals.size).take ((begin Try.prog (fun _ _ => 0) default).world.heap.size - Try.prog.globals.size) = (begin Try.prog (fun _ _ => 0) default).world.heap.toList.drop Try.prog.globals.size := by kernel_rfl
theorem oB (os : Os) : Input.okWideB Try.prog ((start os).forCall (fun _ _ => 0) ⟨#[], args0, []⟩) 3 ⟨#[], args0, []⟩ = true := by kernel_rfl
theorem hB (os : Os) : (start os).os = os := by kernel_rfl
end Go.Proofs.Ytmohaohdbklkeaa.waveFigures
/- For any rules and record, valid or not, the law WaveFigures of the program answers true, and its arguments read as they did. CONDITIONS: none. -/
namespace Go.Proofs.Ytmohaohdbklkeaa.waveFigures
open Go.ChangeShapes Go.WideShapes Go.ChangeAt Go.RowKit Go.Joins
set_option maxRecDepth 100000 in
theorem lifted (os : Os) (started : os.Started) (H : Type) (enc : TypeId × Value → H) (F : Stop.Interp) :
    ReturnsInHanded {} Try.checked os 3 .any ((OpenSpec.ofChange Rows.waveFiguresSpec).preRow enc Try.prog Try.f3 Rows.waveFiguresRow.domain false Rows.waveFiguresRow.laid) (((OpenSpec.ofChange Rows.waveFiguresSpec).at F).post enc Try.prog Try.f3 false true false false) := by
  obtain ⟨places, hx⟩ := reads os enc
  refine returnsInHanded_of_row (C := Try.checked) (s := OpenSpec.ofChange Rows.waveFiguresSpec) own started (by kernel_rfl) Try.func3
    (witness_row_at (enc := enc) (C := Try.checked) false (start os) args0 (hB os) (vB os) (rB os) (oB os)
      (OpenSpec.preRow_of_cond 8 hx (by kernel_rfl) (fun k hk => by cases hk) (by kernel_rfl) (laid_met os))) ?_
  intro W base args ds gs before hval hW _ _ _ hL _ _
  exact contract H enc W base args ds gs before hval hW hL
theorem said : Rows.WaveFiguresSaid :=
  OpenClaim.holds_of_cond 3 Try.f3 rfl rfl rfl rfl rfl rfl rfl ⟨rfl, rfl, rfl, rfl, rfl⟩ rfl rfl rfl rfl rfl (by kernel_rfl) Try.func3 (by kernel_rfl)
    (of_decide_eq_true (by kernel_rfl)) (by unfold Func.isWrapper; first | (rw [if_pos (by decide +kernel)]; kernel_rfl) | (rw [if_neg (by decide +kernel)]; exact ⟨rfl, rfl⟩))
    (fun os started H enc _ F => by rw [OpenClaim.pre_eq_preRow]; exact lifted os started H enc F)
end Go.Proofs.Ytmohaohdbklkeaa.waveFigures
