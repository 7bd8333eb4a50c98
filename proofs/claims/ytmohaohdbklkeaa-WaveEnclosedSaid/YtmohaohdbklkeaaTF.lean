import Derived.Test.YtmohaohdbklkeaaTE
set_option linter.unusedVariables false
set_option linter.unusedSimpArgs false
set_option linter.unusedSectionVars false
set_option linter.unnecessarySimpa false
namespace Go.Proofs.Ytmohaohdbklkeaa
open Go.Ev Go.RowKit
set_option maxRecDepth 100000
set_option maxHeartbeats 8000000
set_option linter.all false
noncomputable section
abbrev shNL3_0 (a0 : Int) (a1 : Int) (a2 : Int) (a3 : Int) (a4 : Int) (a5 : Int) (a6 : Int) (a7 : Int) (a8 : Int) : D := .agg [.one (.int .i64 a0), .one (.int .i64 a1), .one (.int .i64 a2), .one (.int .i64 a3), .one (.int .i64 a4), .one (.int .i64 a5), .one (.int .i64 a6), .one (.int .i64 a7), .one (.int .i64 a8)]
def shNL3_0P (d : D) : Int × Int × Int × Int × Int × Int × Int × Int × Int := (D.vi (D.at d 0), D.vi (D.at d 1), D.vi (D.at d 2), D.vi (D.at d 3), D.vi (D.at d 4), D.vi (D.at d 5), D.vi (D.at d 6), D.vi (D.at d 7), D.vi (D.at d 8))
def bothErr_sp : List LSpec := []
def bothErr_M (re fa fb fc fd : Int) (k : Nat) (c : List D) (st : Int) (kb : Nat) (cb : List D) : Option D := pullD (α := Int) (m_53 [.agg [iD re, iD fa, iD fb, iD fc, iD fd, .list k c]]) (fun d => ((D.vi d))) (fun r0 => iD r0) fun r0 => ((if r0 ≠ (0 : Int) then some (iD r0) else pullD (α := Int) (m_41 [.agg [iD st, .list kb cb]]) (fun d => ((D.vi d))) (fun r1 => iD r1) fun r1 => (some (iD r1))))
theorem bothErr_M_ok (re fa fb fc fd : Int) (k : Nat) (c : List D) (st : Int) (kb : Nat) (cb : List D) {r : D} (h : bothErr_M re fa fb fc fd k c st kb cb = some r) : Con 17 [.agg [iD re, iD fa, iD fb, iD fc, iD fd, .list k c], .agg [iD st, .list kb cb]] r := by
  unfold bothErr_M at h
  obtain ⟨r0, f1_, h2_⟩ := pullD_elim h
  replace f1_ := m_53_ok f1_
  by_cases b3_ : r0 ≠ (0 : Int)
  · have h4_ := (if_pos b3_).symm.trans h2_
    obtain rfl := Option.some.inj h4_
    exact con_pc (op := true) (I := [17]) (sp := bothErr_sp) 3000 (bT 1 []) [iD r0] [c_b b3_] [k_c f1_] (by kernel_rfl)
  have h4_ := (if_neg b3_).symm.trans h2_
  have b5_ : r0 = (0 : Int) := by first | exact b3_ | simpa using b3_
  obtain ⟨r1, f6_, h7_⟩ := pullD_elim h4_
  replace f6_ := m_41_ok f6_
  obtain rfl := Option.some.inj h7_
  exact con_pc (op := true) (I := [17]) (sp := bothErr_sp) 3000 (bF 1 []) [iD r0, iD r1] [c_bn b5_] [k_c f1_, k_c f6_] (by kernel_rfl)
def m_17 (ds : List D) : Option D := pullD (α := Int × Int × Int × Int × Int × Nat × (List D) × Int × Nat × (List D)) (some (.tup ds)) (fun d => ((D.vi (D.at (D.at d 0) 0)), (D.vi (D.at (D.at d 0) 1)), (D.vi (D.at (D.at d 0) 2)), (D.vi (D.at (D.at d 0) 3)), (D.vi (D.at (D.at d 0) 4)), (D.ln (D.at (D.at d 0) 5)), (D.lc (D.at (D.at d 0) 5)), (D.vi (D.at (D.at d 1) 0)), (D.ln (D.at (D.at d 1) 1)), (D.lc (D.at (D.at d 1) 1)))) (fun (re, fa, fb, fc, fd, k, c, st, kb, cb) => .tup [.agg [iD re, iD fa, iD fb, iD fc, iD fd, .list k c], .agg [iD st, .list kb cb]]) fun (re, fa, fb, fc, fd, k, c, st, kb, cb) => bothErr_M re fa fb fc fd k c st kb cb
theorem m_17_ok {ds : List D} {r : D} (h : m_17 ds = some r) : Con 17 ds r := by
  unfold m_17 at h
  obtain ⟨⟨re, fa, fb, fc, fd, k, c, st, kb, cb⟩, e0, h0⟩ := pullD_elim h
  obtain rfl := tup_inj e0
  exact bothErr_M_ok re fa fb fc fd k c st kb cb h0
theorem m_17_eq (re fa fb fc fd : Int) (k : Nat) (c : List D) (st : Int) (kb : Nat) (cb : List D) : m_17 [.agg [iD re, iD fa, iD fb, iD fc, iD fd, .list k c], .agg [iD st, .list kb cb]] = bothErr_M re fa fb fc fd k c st kb cb := pullD_some (re, fa, fb, fc, fd, k, c, st, kb, cb) rfl rfl
def peakR_x3_0 : LExit := ⟨some 0, [.val 6], (List.range' 7 20)⟩
def peakR_sp : List LSpec := [⟨18, 3, [peakR_x3_0]⟩]
def peakR_L3_E (re fa fb fc fd : Int) (k : Nat) (c : List D) (st : Int) (kb : Nat) (cb : List D)  : List AV × AHeap := ([.agg [.pure (.int .i64 re), .pure (.int .i64 fa), .pure (.int .i64 fb), .pure (.int .i64 fc), .pure (.int .i64 fd), .dsl 0], .agg [.pure (.int .i64 st), .dsl 1], .ptr 2 0, .ptr 3 0, .pure (.int .i64 (0 : Int)), .ptr 4 0, .pure (.int .i64 (0 : Int)), .pure (.int .i64 (0 : Int)), .pure (.tuple #[]), .pure (.tuple #[]), .pure (.tuple #[]), .pure (.tuple #[]), .pure (.tuple #[]), .pure (.tuple #[]), .pure (.tuple #[]), .pure (.tuple #[]), .pure (.tuple #[]), .pure (.tuple #[]), .pure (.tuple #[]), .pure (.tuple #[]), .pure (.tuple #[]), .pure (.tuple #[]), .pure (.tuple #[]), .pure (.tuple #[]), .pure (.tuple #[]), .pure (.tuple #[]), .pure (.tuple #[]), .pure (.tuple #[]), .pure (.tuple #[]), .pure (.tuple #[]), .pure (.tuple #[]), .pure (.tuple #[]), .pure (.tuple #[]), .pure (.tuple #[]), .pure (.tuple #[]), .pure (.tuple #[]), .pure (.tuple #[]), .pure (.tuple #[]), .pure (.tuple #[]), .pure (.tuple #[]), .pure (.tuple #[]), .pure (.tuple #[]), .pure (.tuple #[]), .pure (.tuple #[]), .pure (.tuple #[])], [(4, { cells := [.pure (.int .i64 (0 : Int)), .pure (.int .i64 (0 : Int))], opn := none, kind := .cells }), (3, { cells := [.pure (.int .i64 st), .dsl 1], opn := none, kind := .cells }), (2, { cells := [.pure (.int .i64 re), .pure (.int .i64 fa), .pure (.int .i64 fb), .pure (.int .i64 fc), .pure (.int .i64 fd), .dsl 0], opn := none, kind := .cells }), (1, { cells := [], opn := none, kind := .deep kb cb }), (0, { cells := [], opn := none, kind := .deep k c })])
def peakR_L3_A : LoopAt := ⟨18, loopAt Try.prog 18 0, 5, 26, 5, noFrame⟩
theorem peakR_L3_ok : (peakR_L3_A).OK := ⟨by show 5 ≤ 26; decide, by show 5 ≤ 5; decide, by kernel_rfl, rfl⟩
def peakR_L3_gs (re fa fb fc fd : Int) (k : Nat) (c : List D) (st : Int) (kb : Nat) (cb : List D)  : Go.Ev.Rd → Option GS
  | .next 0 ds => ghost [.val 6, .val 7] (List.range' 8 19) (peakR_L3_E re fa fb fc fd k c st kb cb).1 (peakR_L3_E re fa fb fc fd k c st kb cb).2 5 ds
  | .out 0 ds => ghost peakR_x3_0.live peakR_x3_0.junk (peakR_L3_E re fa fb fc fd k c st kb cb).1 (peakR_L3_E re fa fb fc fd k c st kb cb).2 5 ds
  | _ => none
def peakR_L3_ex : Nat → Option Nat
  | 0 => peakR_x3_0.ex
  | _ => none
def peakR_L3_ax : Go.Ev.Rd → AX
  | .next _ _ => .normal
  | .out j _ => axOf (peakR_L3_ex j)
def peakR_L3_S0 (re fa fb fc fd : Int) (k : Nat) (c : List D) (st : Int) (kb : Nat) (cb : List D)  (ds : List D) : Option Go.Ev.Rd := pullD (α := Int × Int) (some (.tup ds)) (fun d => ((D.vi (D.at d 0)), (D.vi (D.at d 1)))) (fun (s6, s7) => .tup [iD s6, iD s7]) fun (s6, s7) => ((if s7 < (kb : Int) then guardP ((0 : Int) ≤ s7 ∧ s7.toNat < kb) (pullD (α := Int) (readD cb (s7.toNat * 1) 1 false) (fun d => ((D.vi d))) (fun v0 => iD v0) fun v0 => (guardP ((0 : Int) ≤ s6 ∧ s6.toNat < kb) (pullD (α := Int) (readD cb (s6.toNat * 1) 1 false) (fun d => ((D.vi d))) (fun v1 => iD v1) fun v1 => ((if v0 > v1 then some (.next 0 [iD s7, iD (IntKind.i64.wrap (s7 + (1 : Int)))]) else some (.next 0 [iD s6, iD (IntKind.i64.wrap (s7 + (1 : Int)))])))))) else some (.out 0 [iD s6])))
def peakR_L3_S (re fa fb fc fd : Int) (k : Nat) (c : List D) (st : Int) (kb : Nat) (cb : List D)  : Go.Ev.Rd → Option Go.Ev.Rd
  | .next 0 ds => peakR_L3_S0 re fa fb fc fd k c st kb cb ds
  | _ => none
theorem peakR_L3_S_0 (re fa fb fc fd : Int) (k : Nat) (c : List D) (st : Int) (kb : Nat) (cb : List D)  (ds : List D) : peakR_L3_S re fa fb fc fd k c st kb cb (.next 0 ds) = peakR_L3_S0 re fa fb fc fd k c st kb cb ds := rfl
theorem peakR_L3_S_ok (re fa fb fc fd : Int) (k : Nat) (c : List D) (st : Int) (kb : Nat) (cb : List D)  : ∀ s_ t_, peakR_L3_S re fa fb fc fd k c st kb cb s_ = some t_ → Step (ctx [18] peakR_sp) Tabs peakR_L3_A (stateOf (peakR_L3_gs re fa fb fc fd k c st kb cb s_)) (stateOf (peakR_L3_gs re fa fb fc fd k c st kb cb t_)) (peakR_L3_ax t_) ∧ EndOK peakR_L3_A.nx peakR_L3_A.low (peakR_L3_gs re fa fb fc fd k c st kb cb) t_
  | .next 0 ds, t_, h => by
    have h_ : peakR_L3_S0 re fa fb fc fd k c st kb cb ds = some t_ := h
    clear h
    unfold peakR_L3_S0 at h_
    obtain ⟨⟨s6, s7⟩, e0, h0⟩ := pullD_elim h_
    clear h_
    obtain rfl := tup_inj e0
    by_cases b1_ : s7 < (kb : Int)
    · have h2_ := (if_pos b1_).symm.trans h0
      obtain ⟨f3_, h4_⟩ := guardP_elim h2_
      obtain ⟨v0, f5_, h6_⟩ := pullD_elim h4_
      replace f5_ := readD_elim f5_
      obtain ⟨f7_, h8_⟩ := guardP_elim h6_
      obtain ⟨v1, f9_, h10_⟩ := pullD_elim h8_
      replace f9_ := readD_elim f9_
      by_cases b11_ : v0 > v1
      · have h12_ := (if_pos b11_).symm.trans h10_
        obtain rfl := Option.some.inj h12_
        exact ⟨step_pc 3000 (bT 2 []) [iD v0, iD v1] [c_d b1_, c_f f3_, c_f f5_, c_f f7_, c_f f9_, c_d b11_] [] _ rfl (by kernel_rfl) (by kernel_rfl) (by kernel_rfl) (by kernel_rfl) (by kernel_rfl) (by kernel_rfl), trivial⟩
      have h12_ := (if_neg b11_).symm.trans h10_
      obtain rfl := Option.some.inj h12_
      exact ⟨step_pc 3000 (bT 1 (bF 1 [])) [iD v0, iD v1] [c_d b1_, c_f f3_, c_f f5_, c_f f7_, c_f f9_, c_n b11_] [] _ rfl (by kernel_rfl) (by kernel_rfl) (by kernel_rfl) (by kernel_rfl) (by kernel_rfl) (by kernel_rfl), trivial⟩
    have h2_ := (if_neg b1_).symm.trans h0
    obtain rfl := Option.some.inj h2_
    exact ⟨step_pc 3000 (bF 1 []) [] [c_n b1_] [] _ rfl (by kernel_rfl) (by kernel_rfl) (by kernel_rfl) (by kernel_rfl) (by kernel_rfl) (by kernel_rfl), by kernel_rfl, by kernel_rfl⟩
  | .next (_ + 1) _, _, h => by cases h
  | .out _ _, _, h => by cases h
theorem peakR_L3_go (re fa fb fc fd : Int) (k : Nat) (c : List D) (st : Int) (kb : Nat) (cb : List D)  {q : Nat} {ds : List D} {j : Nat} {es : List D} (h : runR (peakR_L3_S re fa fb fc fd k c st kb cb) (.next q ds) = some (.out j es)) : Runs (ctx [18] peakR_sp) Tabs peakR_L3_A (stateOf (peakR_L3_gs re fa fb fc fd k c st kb cb (.next q ds))) (stateOf (peakR_L3_gs re fa fb fc fd k c st kb cb (.out j es))) (peakR_L3_ax (.out j es)) ∧ (nxtOf (peakR_L3_gs re fa fb fc fd k c st kb cb (.out j es)), lowGS (peakR_L3_gs re fa fb fc fd k c st kb cb (.out j es))) = (peakR_L3_A.nx, peakR_L3_A.low) :=
  runs_of' (good true _ _) peakR_L3_ok (ax := peakR_L3_ax) (fun _ _ => rfl) (fun _ _ => axOf_end _) (peakR_L3_S_ok re fa fb fc fd k c st kb cb) h
theorem peakR_L3_in0 (re fa fb fc fd : Int) (k : Nat) (c : List D) (st : Int) (kb : Nat) (cb : List D)  {es : List D} (h : runR (peakR_L3_S re fa fb fc fd k c st kb cb) (.next 0 [iD ((0 : Int)), iD ((0 : Int))]) = some (.out 0 es)) : LoopC (loopAt Try.prog 18 0) (peakR_L3_E re fa fb fc fd k c st kb cb) 5 noFrame peakR_x3_0 es :=
  have r := peakR_L3_go re fa fb fc fd k c st kb cb h
  loopin_as rfl (loop_in (l := peakR_L3_A) (E := (peakR_L3_E re fa fb fc fd k c st kb cb)) (S := stateOf (peakR_L3_gs re fa fb fc fd k c st kb cb (.next 0 [iD ((0 : Int)), iD ((0 : Int))]))) (ns := nsOf (peakR_L3_gs re fa fb fc fd k c st kb cb (.next 0 [iD ((0 : Int)), iD ((0 : Int))]))) peakR_L3_ok r.1 r.2 (by kernel_rfl) (by kernel_rfl) (by kernel_rfl) (by kernel_rfl))
def peakR_M (re fa fb fc fd : Int) (k : Nat) (c : List D) (st : Int) (kb : Nat) (cb : List D) : Option D := bindL (runR (peakR_L3_S re fa fb fc fd k c st kb cb) (.next 0 [iD ((0 : Int)), iD ((0 : Int))])) fun j ds => (if j = 0 then pullD (α := Int) (some (.tup ds)) (fun d => ((D.vi (D.at d 0)))) (fun l0 => .tup [iD l0]) fun l0 => (guardP ((0 : Int) ≤ l0 ∧ l0.toNat < kb) (pullD (α := Int) (readD cb (l0.toNat * 1) 1 false) (fun d => ((D.vi d))) (fun v1 => iD v1) fun v1 => (pullD (α := Int) (readD cb (l0.toNat * 1) 1 false) (fun d => ((D.vi d))) (fun v2 => iD v2) fun v2 => (some (.tup [iD l0, .agg [iD (IntKind.i64.wrap (v1 - re)), iD (IntKind.i64.wrap (v2 + re))]]))))) else none)
theorem peakR_M_ok (re fa fb fc fd : Int) (k : Nat) (c : List D) (st : Int) (kb : Nat) (cb : List D) {r : D} (h : peakR_M re fa fb fc fd k c st kb cb = some r) : Con 18 [.agg [iD re, iD fa, iD fb, iD fc, iD fd, .list k c], .agg [iD st, .list kb cb]] r := by
  unfold peakR_M at h
  obtain ⟨j, ds, e1_, h2_⟩ := bindL_elim h
  by_cases j3_ : j = 0
  · have h6_ := (if_pos j3_).symm.trans h2_
    clear h2_
    subst j3_
    obtain ⟨l0, e4_, h7_⟩ := pullD_elim h6_
    clear h6_
    obtain rfl := tup_inj e4_
    have k5_ := peakR_L3_in0 re fa fb fc fd k c st kb cb e1_
    obtain ⟨f8_, h9_⟩ := guardP_elim h7_
    obtain ⟨v1, f10_, h11_⟩ := pullD_elim h9_
    replace f10_ := readD_elim f10_
    obtain ⟨v2, f12_, h13_⟩ := pullD_elim h11_
    replace f12_ := readD_elim f12_
    obtain rfl := Option.some.inj h13_
    exact con_pc (op := true) (I := [18]) (sp := peakR_sp) 3000 [] [.tup [iD (Int.ofNat 0), iD l0], iD v1, iD v2] [c_f f8_, c_f f10_, c_f f8_, c_f f12_] [k_l k5_ [] [.tup [iD (Int.ofNat 0), iD l0], iD v1, iD v2] [iD v1, iD v2]] (by kernel_rfl)
  have h14_ := (if_neg j3_).symm.trans h2_
  clear h2_
  cases h14_
def m_18 (ds : List D) : Option D := pullD (α := Int × Int × Int × Int × Int × Nat × (List D) × Int × Nat × (List D)) (some (.tup ds)) (fun d => ((D.vi (D.at (D.at d 0) 0)), (D.vi (D.at (D.at d 0) 1)), (D.vi (D.at (D.at d 0) 2)), (D.vi (D.at (D.at d 0) 3)), (D.vi (D.at (D.at d 0) 4)), (D.ln (D.at (D.at d 0) 5)), (D.lc (D.at (D.at d 0) 5)), (D.vi (D.at (D.at d 1) 0)), (D.ln (D.at (D.at d 1) 1)), (D.lc (D.at (D.at d 1) 1)))) (fun (re, fa, fb, fc, fd, k, c, st, kb, cb) => .tup [.agg [iD re, iD fa, iD fb, iD fc, iD fd, .list k c], .agg [iD st, .list kb cb]]) fun (re, fa, fb, fc, fd, k, c, st, kb, cb) => peakR_M re fa fb fc fd k c st kb cb
theorem m_18_ok {ds : List D} {r : D} (h : m_18 ds = some r) : Con 18 ds r := by
  unfold m_18 at h
  obtain ⟨⟨re, fa, fb, fc, fd, k, c, st, kb, cb⟩, e0, h0⟩ := pullD_elim h
  obtain rfl := tup_inj e0
  exact peakR_M_ok re fa fb fc fd k c st kb cb h0
theorem m_18_eq (re fa fb fc fd : Int) (k : Nat) (c : List D) (st : Int) (kb : Nat) (cb : List D) : m_18 [.agg [iD re, iD fa, iD fb, iD fc, iD fd, .list k c], .agg [iD st, .list kb cb]] = peakR_M re fa fb fc fd k c st kb cb := pullD_some (re, fa, fb, fc, fd, k, c, st, kb, cb) rfl rfl
def levelR_x3_0 : LExit := ⟨some 0, [.cval 9 0, .cval 9 1], (10 :: (List.range' 16 36))⟩
def levelR_sp : List LSpec := [⟨51, 3, [levelR_x3_0]⟩]
def levelR_L3_E (re fa fb fc fd : Int) (k : Nat) (c : List D) (st : Int) (kb : Nat) (cb : List D) (n lo hi : Int)  : List AV × AHeap := ([.agg [.pure (.int .i64 re), .pure (.int .i64 fa), .pure (.int .i64 fb), .pure (.int .i64 fc), .pure (.int .i64 fd), .dsl 0], .agg [.pure (.int .i64 st), .dsl 1], .pure (.int .i64 n), .pure (.agg #[.int .i64 lo, .int .i64 hi]), .ptr 2 0, .ptr 3 0, .pure (.tuple #[]), .ptr 4 0, .ptr 5 0, .ptr 6 0, .pure (.int .i64 (IntKind.i64.wrap ((kb : Int) - (1 : Int)))), .pure (.agg #[.int .i64 (-1 : Int), .int .i64 (-1 : Int)]), .ptr 3 1, .dsl 1, .pure (.int .i64 (kb : Int)), .pure (.int .i64 (IntKind.i64.wrap ((kb : Int) - (1 : Int)))), .pure (.tuple #[]), .pure (.tuple #[]), .pure (.tuple #[]), .pure (.tuple #[]), .pure (.tuple #[]), .pure (.tuple #[]), .pure (.tuple #[]), .pure (.tuple #[]), .pure (.tuple #[]), .pure (.tuple #[]), .pure (.tuple #[]), .pure (.tuple #[]), .pure (.tuple #[]), .pure (.tuple #[]), .pure (.tuple #[]), .pure (.tuple #[]), .pure (.tuple #[]), .pure (.tuple #[]), .pure (.tuple #[]), .pure (.tuple #[]), .pure (.tuple #[]), .pure (.tuple #[]), .pure (.tuple #[]), .pure (.tuple #[]), .pure (.tuple #[]), .pure (.tuple #[]), .pure (.tuple #[]), .pure (.tuple #[]), .pure (.tuple #[]), .pure (.tuple #[]), .pure (.tuple #[]), .pure (.tuple #[]), .pure (.tuple #[]), .pure (.tuple #[]), .pure (.tuple #[]), .pure (.tuple #[]), .pure (.tuple #[])], [(6, { cells := [.pure (.int .i64 (-1 : Int)), .pure (.int .i64 (-1 : Int))], opn := none, kind := .cells }), (5, { cells := [.pure (.int .i64 (0 : Int)), .pure (.int .i64 (0 : Int))], opn := none, kind := .cells }), (4, { cells := [.pure (.int .i64 lo), .pure (.int .i64 hi)], opn := none, kind := .cells }), (3, { cells := [.pure (.int .i64 st), .dsl 1], opn := none, kind := .cells }), (2, { cells := [.pure (.int .i64 re), .pure (.int .i64 fa), .pure (.int .i64 fb), .pure (.int .i64 fc), .pure (.int .i64 fd), .dsl 0], opn := none, kind := .cells }), (1, { cells := [], opn := none, kind := .deep kb cb }), (0, { cells := [], opn := none, kind := .deep k c })])
def levelR_L3_A : LoopAt := ⟨51, loopAt Try.prog 51 0, 7, 46, 6, noFrame⟩
theorem levelR_L3_ok : (levelR_L3_A).OK := ⟨by show 7 ≤ 46; decide, by show 6 ≤ 7; decide, by kernel_rfl, rfl⟩
def levelR_L3_gs (re fa fb fc fd : Int) (k : Nat) (c : List D) (st : Int) (kb : Nat) (cb : List D) (n lo hi : Int)  : Go.Ev.Rd → Option GS
  | .next 0 ds => ghost [.val 10, .cval 9 0, .cval 9 1] (List.range' 16 36) (levelR_L3_E re fa fb fc fd k c st kb cb n lo hi).1 (levelR_L3_E re fa fb fc fd k c st kb cb n lo hi).2 7 ds
  | .out 0 ds => ghost levelR_x3_0.live levelR_x3_0.junk (levelR_L3_E re fa fb fc fd k c st kb cb n lo hi).1 (levelR_L3_E re fa fb fc fd k c st kb cb n lo hi).2 7 ds
  | _ => none
def levelR_L3_ex : Nat → Option Nat
  | 0 => levelR_x3_0.ex
  | _ => none
def levelR_L3_ax : Go.Ev.Rd → AX
  | .next _ _ => .normal
  | .out j _ => axOf (levelR_L3_ex j)
def levelR_L3_S0 (re fa fb fc fd : Int) (k : Nat) (c : List D) (st : Int) (kb : Nat) (cb : List D) (n lo hi : Int)  (ds : List D) : Option Go.Ev.Rd := pullD (α := Int × Int × Int) (some (.tup ds)) (fun d => ((D.vi (D.at d 0)), (D.vi (D.at d 1)), (D.vi (D.at d 2)))) (fun (s10, s9_0, s9_1) => .tup [iD s10, iD s9_0, iD s9_1]) fun (s10, s9_0, s9_1) => ((if s10 ≥ (0 : Int) then guardP ((0 : Int) ≤ s10 ∧ s10.toNat < kb) (pullD (α := Int) (readD cb (s10.toNat * 1) 1 false) (fun d => ((D.vi d))) (fun v0 => iD v0) fun v0 => ((if IntKind.i64.wrap ((10 : Int) * IntKind.i64.wrap (v0 + re)) ≥ IntKind.i64.wrap (n * lo) then pullD (α := Int) (readD cb (s10.toNat * 1) 1 false) (fun d => ((D.vi d))) (fun v1 => iD v1) fun v1 => ((if IntKind.i64.wrap ((10 : Int) * IntKind.i64.wrap (v1 - re)) ≥ IntKind.i64.wrap (n * hi) then some (.next 0 [iD (IntKind.i64.wrap (s10 - (1 : Int))), iD s10, iD s10]) else some (.next 0 [iD (IntKind.i64.wrap (s10 - (1 : Int))), iD s10, iD s9_1]))) else pullD (α := Int) (readD cb (s10.toNat * 1) 1 false) (fun d => ((D.vi d))) (fun v2 => iD v2) fun v2 => ((if IntKind.i64.wrap ((10 : Int) * IntKind.i64.wrap (v2 - re)) ≥ IntKind.i64.wrap (n * hi) then some (.next 0 [iD (IntKind.i64.wrap (s10 - (1 : Int))), iD s9_0, iD s10]) else some (.next 0 [iD (IntKind.i64.wrap (s10 - (1 : Int))), iD s9_0, iD s9_1])))))) else some (.out 0 [iD s9_0, iD s9_1])))
def levelR_L3_S (re fa fb fc fd : Int) (k : Nat) (c : List D) (st : Int) (kb : Nat) (cb : List D) (n lo hi : Int)  : Go.Ev.Rd → Option Go.Ev.Rd
  | .next 0 ds => levelR_L3_S0 re fa fb fc fd k c st kb cb n lo hi ds
  | _ => none
theorem levelR_L3_S_0 (re fa fb fc fd : Int) (k : Nat) (c : List D) (st : Int) (kb : Nat) (cb : List D) (n lo hi : Int)  (ds : List D) : levelR_L3_S re fa fb fc fd k c st kb cb n lo hi (.next 0 ds) = levelR_L3_S0 re fa fb fc fd k c st kb cb n lo hi ds := rfl
theorem levelR_L3_S_ok (re fa fb fc fd : Int) (k : Nat) (c : List D) (st : Int) (kb : Nat) (cb : List D) (n lo hi : Int)  : ∀ s_ t_, levelR_L3_S re fa fb fc fd k c st kb cb n lo hi s_ = some t_ → Step (ctx [51] levelR_sp) Tabs levelR_L3_A (stateOf (levelR_L3_gs re fa fb fc fd k c st kb cb n lo hi s_)) (stateOf (levelR_L3_gs re fa fb fc fd k c st kb cb n lo hi t_)) (levelR_L3_ax t_) ∧ EndOK levelR_L3_A.nx levelR_L3_A.low (levelR_L3_gs re fa fb fc fd k c st kb cb n lo hi) t_
  | .next 0 ds, t_, h => by
    have h_ : levelR_L3_S0 re fa fb fc fd k c st kb cb n lo hi ds = some t_ := h
    clear h
    unfold levelR_L3_S0 at h_
    obtain ⟨⟨s10, s9_0, s9_1⟩, e0, h0⟩ := pullD_elim h_
    clear h_
    obtain rfl := tup_inj e0
    by_cases b1_ : s10 ≥ (0 : Int)
    · have h2_ := (if_pos b1_).symm.trans h0
      obtain ⟨f3_, h4_⟩ := guardP_elim h2_
      obtain ⟨v0, f5_, h6_⟩ := pullD_elim h4_
      replace f5_ := readD_elim f5_
      by_cases b7_ : IntKind.i64.wrap ((10 : Int) * IntKind.i64.wrap (v0 + re)) ≥ IntKind.i64.wrap (n * lo)
      · have h8_ := (if_pos b7_).symm.trans h6_
        obtain ⟨v1, f9_, h10_⟩ := pullD_elim h8_
        replace f9_ := readD_elim f9_
        by_cases b11_ : IntKind.i64.wrap ((10 : Int) * IntKind.i64.wrap (v1 - re)) ≥ IntKind.i64.wrap (n * hi)
        · have h12_ := (if_pos b11_).symm.trans h10_
          obtain rfl := Option.some.inj h12_
          exact ⟨step_pc 3000 (bT 3 []) [iD v0, iD v1] [c_d b1_, c_f f3_, c_f f5_, c_d b7_, c_f f3_, c_f f9_, c_d b11_] [] _ rfl (by kernel_rfl) (by kernel_rfl) (by kernel_rfl) (by kernel_rfl) (by kernel_rfl) (by kernel_rfl), trivial⟩
        have h12_ := (if_neg b11_).symm.trans h10_
        obtain rfl := Option.some.inj h12_
        exact ⟨step_pc 3000 (bT 2 (bF 1 [])) [iD v0, iD v1] [c_d b1_, c_f f3_, c_f f5_, c_d b7_, c_f f3_, c_f f9_, c_n b11_] [] _ rfl (by kernel_rfl) (by kernel_rfl) (by kernel_rfl) (by kernel_rfl) (by kernel_rfl) (by kernel_rfl), trivial⟩
      have h8_ := (if_neg b7_).symm.trans h6_
      obtain ⟨v2, f13_, h14_⟩ := pullD_elim h8_
      replace f13_ := readD_elim f13_
      by_cases b15_ : IntKind.i64.wrap ((10 : Int) * IntKind.i64.wrap (v2 - re)) ≥ IntKind.i64.wrap (n * hi)
      · have h16_ := (if_pos b15_).symm.trans h14_
        obtain rfl := Option.some.inj h16_
        exact ⟨step_pc 3000 (bT 1 (bF 1 (bT 1 []))) [iD v0, iD v2] [c_d b1_, c_f f3_, c_f f5_, c_n b7_, c_f f3_, c_f f13_, c_d b15_] [] _ rfl (by kernel_rfl) (by kernel_rfl) (by kernel_rfl) (by kernel_rfl) (by kernel_rfl) (by kernel_rfl), trivial⟩
      have h16_ := (if_neg b15_).symm.trans h14_
      obtain rfl := Option.some.inj h16_
      exact ⟨step_pc 3000 (bT 1 (bF 2 [])) [iD v0, iD v2] [c_d b1_, c_f f3_, c_f f5_, c_n b7_, c_f f3_, c_f f13_, c_n b15_] [] _ rfl (by kernel_rfl) (by kernel_rfl) (by kernel_rfl) (by kernel_rfl) (by kernel_rfl) (by kernel_rfl), trivial⟩
    have h2_ := (if_neg b1_).symm.trans h0
    obtain rfl := Option.some.inj h2_
    exact ⟨step_pc 3000 (bF 1 []) [] [c_n b1_] [] _ rfl (by kernel_rfl) (by kernel_rfl) (by kernel_rfl) (by kernel_rfl) (by kernel_rfl) (by kernel_rfl), by kernel_rfl, by kernel_rfl⟩
  | .next (_ + 1) _, _, h => by cases h
  | .out _ _, _, h => by cases h
theorem levelR_L3_go (re fa fb fc fd : Int) (k : Nat) (c : List D) (st : Int) (kb : Nat) (cb : List D) (n lo hi : Int)  {q : Nat} {ds : List D} {j : Nat} {es : List D} (h : runR (levelR_L3_S re fa fb fc fd k c st kb cb n lo hi) (.next q ds) = some (.out j es)) : Runs (ctx [51] levelR_sp) Tabs levelR_L3_A (stateOf (levelR_L3_gs re fa fb fc fd k c st kb cb n lo hi (.next q ds))) (stateOf (levelR_L3_gs re fa fb fc fd k c st kb cb n lo hi (.out j es))) (levelR_L3_ax (.out j es)) ∧ (nxtOf (levelR_L3_gs re fa fb fc fd k c st kb cb n lo hi (.out j es)), lowGS (levelR_L3_gs re fa fb fc fd k c st kb cb n lo hi (.out j es))) = (levelR_L3_A.nx, levelR_L3_A.low) :=
  runs_of' (good true _ _) levelR_L3_ok (ax := levelR_L3_ax) (fun _ _ => rfl) (fun _ _ => axOf_end _) (levelR_L3_S_ok re fa fb fc fd k c st kb cb n lo hi) h
theorem levelR_L3_in0 (re fa fb fc fd : Int) (k : Nat) (c : List D) (st : Int) (kb : Nat) (cb : List D) (n lo hi : Int)  {es : List D} (h : runR (levelR_L3_S re fa fb fc fd k c st kb cb n lo hi) (.next 0 [iD ((IntKind.i64.wrap ((kb : Int) - (1 : Int)))), iD ((-1 : Int)), iD ((-1 : Int))]) = some (.out 0 es)) : LoopC (loopAt Try.prog 51 0) (levelR_L3_E re fa fb fc fd k c st kb cb n lo hi) 7 noFrame levelR_x3_0 es :=
  have r := levelR_L3_go re fa fb fc fd k c st kb cb n lo hi h
  loopin_as rfl (loop_in (l := levelR_L3_A) (E := (levelR_L3_E re fa fb fc fd k c st kb cb n lo hi)) (S := stateOf (levelR_L3_gs re fa fb fc fd k c st kb cb n lo hi (.next 0 [iD ((IntKind.i64.wrap ((kb : Int) - (1 : Int)))), iD ((-1 : Int)), iD ((-1 : Int))]))) (ns := nsOf (levelR_L3_gs re fa fb fc fd k c st kb cb n lo hi (.next 0 [iD ((IntKind.i64.wrap ((kb : Int) - (1 : Int)))), iD ((-1 : Int)), iD ((-1 : Int))]))) levelR_L3_ok r.1 r.2 (by kernel_rfl) (by kernel_rfl) (by kernel_rfl) (by kernel_rfl))
def levelR_M (re fa fb fc fd : Int) (k : Nat) (c : List D) (st : Int) (kb : Nat) (cb : List D) (n lo hi : Int) : Option D := bindL (runR (levelR_L3_S re fa fb fc fd k c st kb cb n lo hi) (.next 0 [iD ((IntKind.i64.wrap ((kb : Int) - (1 : Int)))), iD ((-1 : Int)), iD ((-1 : Int))])) fun j ds => (if j = 0 then pullD (α := Int × Int) (some (.tup ds)) (fun d => ((D.vi (D.at d 0)), (D.vi (D.at d 1)))) (fun (l0, l1) => .tup [iD l0, iD l1]) fun (l0, l1) => (some (.agg [iD l0, iD l1])) else none)
theorem levelR_M_ok (re fa fb fc fd : Int) (k : Nat) (c : List D) (st : Int) (kb : Nat) (cb : List D) (n lo hi : Int) {r : D} (h : levelR_M re fa fb fc fd k c st kb cb n lo hi = some r) : Con 51 [.agg [iD re, iD fa, iD fb, iD fc, iD fd, .list k c], .agg [iD st, .list kb cb], iD n, .agg [iD lo, iD hi]] r := by
  unfold levelR_M at h
  obtain ⟨j, ds, e1_, h2_⟩ := bindL_elim h
  by_cases j3_ : j = 0
  · have h6_ := (if_pos j3_).symm.trans h2_
    clear h2_
    subst j3_
    obtain ⟨⟨l0, l1⟩, e4_, h7_⟩ := pullD_elim h6_
    clear h6_
    obtain rfl := tup_inj e4_
    have k5_ := levelR_L3_in0 re fa fb fc fd k c st kb cb n lo hi e1_
    obtain rfl := Option.some.inj h7_
    exact con_pc (op := true) (I := [51]) (sp := levelR_sp) 3000 [] [.tup [iD (Int.ofNat 0), iD l0, iD l1]] [] [k_l k5_ [] [.tup [iD (Int.ofNat 0), iD l0, iD l1]] []] (by kernel_rfl)
  have h8_ := (if_neg j3_).symm.trans h2_
  clear h2_
  cases h8_
def m_51 (ds : List D) : Option D := pullD (α := Int × Int × Int × Int × Int × Nat × (List D) × Int × Nat × (List D) × Int × Int × Int) (some (.tup ds)) (fun d => ((D.vi (D.at (D.at d 0) 0)), (D.vi (D.at (D.at d 0) 1)), (D.vi (D.at (D.at d 0) 2)), (D.vi (D.at (D.at d 0) 3)), (D.vi (D.at (D.at d 0) 4)), (D.ln (D.at (D.at d 0) 5)), (D.lc (D.at (D.at d 0) 5)), (D.vi (D.at (D.at d 1) 0)), (D.ln (D.at (D.at d 1) 1)), (D.lc (D.at (D.at d 1) 1)), (D.vi (D.at d 2)), (D.vi (D.at (D.at d 3) 0)), (D.vi (D.at (D.at d 3) 1)))) (fun (re, fa, fb, fc, fd, k, c, st, kb, cb, n, lo, hi) => .tup [.agg [iD re, iD fa, iD fb, iD fc, iD fd, .list k c], .agg [iD st, .list kb cb], iD n, .agg [iD lo, iD hi]]) fun (re, fa, fb, fc, fd, k, c, st, kb, cb, n, lo, hi) => levelR_M re fa fb fc fd k c st kb cb n lo hi
theorem m_51_ok {ds : List D} {r : D} (h : m_51 ds = some r) : Con 51 ds r := by
  unfold m_51 at h
  obtain ⟨⟨re, fa, fb, fc, fd, k, c, st, kb, cb, n, lo, hi⟩, e0, h0⟩ := pullD_elim h
  obtain rfl := tup_inj e0
  exact levelR_M_ok re fa fb fc fd k c st kb cb n lo hi h0
theorem m_51_eq (re fa fb fc fd : Int) (k : Nat) (c : List D) (st : Int) (kb : Nat) (cb : List D) (n lo hi : Int) : m_51 [.agg [iD re, iD fa, iD fb, iD fc, iD fd, .list k c], .agg [iD st, .list kb cb], iD n, .agg [iD lo, iD hi]] = levelR_M re fa fb fc fd k c st kb cb n lo hi := pullD_some (re, fa, fb, fc, fd, k, c, st, kb, cb, n, lo, hi) rfl rfl
def halfR_x3_0 : LExit := ⟨some 0, [.cval 9 0, .cval 9 1], (10 :: (List.range' 16 33))⟩
def halfR_sp : List LSpec := [⟨52, 3, [halfR_x3_0]⟩]
def halfR_L3_E (re fa fb fc fd : Int) (k : Nat) (c : List D) (st : Int) (kb : Nat) (cb : List D) (n lo hi : Int)  : List AV × AHeap := ([.agg [.pure (.int .i64 re), .pure (.int .i64 fa), .pure (.int .i64 fb), .pure (.int .i64 fc), .pure (.int .i64 fd), .dsl 0], .agg [.pure (.int .i64 st), .dsl 1], .pure (.int .i64 n), .pure (.agg #[.int .i64 lo, .int .i64 hi]), .ptr 2 0, .ptr 3 0, .pure (.tuple #[]), .ptr 4 0, .ptr 5 0, .ptr 6 0, .pure (.int .i64 (IntKind.i64.wrap ((kb : Int) - (1 : Int)))), .pure (.agg #[.int .i64 (-1 : Int), .int .i64 (-1 : Int)]), .ptr 3 1, .dsl 1, .pure (.int .i64 (kb : Int)), .pure (.int .i64 (IntKind.i64.wrap ((kb : Int) - (1 : Int)))), .pure (.tuple #[]), .pure (.tuple #[]), .pure (.tuple #[]), .pure (.tuple #[]), .pure (.tuple #[]), .pure (.tuple #[]), .pure (.tuple #[]), .pure (.tuple #[]), .pure (.tuple #[]), .pure (.tuple #[]), .pure (.tuple #[]), .pure (.tuple #[]), .pure (.tuple #[]), .pure (.tuple #[]), .pure (.tuple #[]), .pure (.tuple #[]), .pure (.tuple #[]), .pure (.tuple #[]), .pure (.tuple #[]), .pure (.tuple #[]), .pure (.tuple #[]), .pure (.tuple #[]), .pure (.tuple #[]), .pure (.tuple #[]), .pure (.tuple #[]), .pure (.tuple #[]), .pure (.tuple #[]), .pure (.tuple #[]), .pure (.tuple #[]), .pure (.tuple #[]), .pure (.tuple #[]), .pure (.tuple #[]), .pure (.tuple #[]), .pure (.tuple #[])], [(6, { cells := [.pure (.int .i64 (-1 : Int)), .pure (.int .i64 (-1 : Int))], opn := none, kind := .cells }), (5, { cells := [.pure (.int .i64 (0 : Int)), .pure (.int .i64 (0 : Int))], opn := none, kind := .cells }), (4, { cells := [.pure (.int .i64 lo), .pure (.int .i64 hi)], opn := none, kind := .cells }), (3, { cells := [.pure (.int .i64 st), .dsl 1], opn := none, kind := .cells }), (2, { cells := [.pure (.int .i64 re), .pure (.int .i64 fa), .pure (.int .i64 fb), .pure (.int .i64 fc), .pure (.int .i64 fd), .dsl 0], opn := none, kind := .cells }), (1, { cells := [], opn := none, kind := .deep kb cb }), (0, { cells := [], opn := none, kind := .deep k c })])
def halfR_L3_A : LoopAt := ⟨52, loopAt Try.prog 52 0, 7, 43, 6, noFrame⟩
theorem halfR_L3_ok : (halfR_L3_A).OK := ⟨by show 7 ≤ 43; decide, by show 6 ≤ 7; decide, by kernel_rfl, rfl⟩
def halfR_L3_gs (re fa fb fc fd : Int) (k : Nat) (c : List D) (st : Int) (kb : Nat) (cb : List D) (n lo hi : Int)  : Go.Ev.Rd → Option GS
  | .next 0 ds => ghost [.val 10, .cval 9 0, .cval 9 1] (List.range' 16 33) (halfR_L3_E re fa fb fc fd k c st kb cb n lo hi).1 (halfR_L3_E re fa fb fc fd k c st kb cb n lo hi).2 7 ds
  | .out 0 ds => ghost halfR_x3_0.live halfR_x3_0.junk (halfR_L3_E re fa fb fc fd k c st kb cb n lo hi).1 (halfR_L3_E re fa fb fc fd k c st kb cb n lo hi).2 7 ds
  | _ => none
def halfR_L3_ex : Nat → Option Nat
  | 0 => halfR_x3_0.ex
  | _ => none
def halfR_L3_ax : Go.Ev.Rd → AX
  | .next _ _ => .normal
  | .out j _ => axOf (halfR_L3_ex j)
def halfR_L3_S0 (re fa fb fc fd : Int) (k : Nat) (c : List D) (st : Int) (kb : Nat) (cb : List D) (n lo hi : Int)  (ds : List D) : Option Go.Ev.Rd := pullD (α := Int × Int × Int) (some (.tup ds)) (fun d => ((D.vi (D.at d 0)), (D.vi (D.at d 1)), (D.vi (D.at d 2)))) (fun (s10, s9_0, s9_1) => .tup [iD s10, iD s9_0, iD s9_1]) fun (s10, s9_0, s9_1) => ((if s10 > n then guardP ((0 : Int) ≤ s10 ∧ s10.toNat < kb) (pullD (α := Int) (readD cb (s10.toNat * 1) 1 false) (fun d => ((D.vi d))) (fun v0 => iD v0) fun v0 => ((if IntKind.i64.wrap ((2 : Int) * IntKind.i64.wrap (v0 - re)) ≤ hi then pullD (α := Int) (readD cb (s10.toNat * 1) 1 false) (fun d => ((D.vi d))) (fun v1 => iD v1) fun v1 => ((if IntKind.i64.wrap ((2 : Int) * IntKind.i64.wrap (v1 + re)) ≤ lo then some (.next 0 [iD (IntKind.i64.wrap (s10 - (1 : Int))), iD s10, iD s10]) else some (.next 0 [iD (IntKind.i64.wrap (s10 - (1 : Int))), iD s10, iD s9_1]))) else pullD (α := Int) (readD cb (s10.toNat * 1) 1 false) (fun d => ((D.vi d))) (fun v2 => iD v2) fun v2 => ((if IntKind.i64.wrap ((2 : Int) * IntKind.i64.wrap (v2 + re)) ≤ lo then some (.next 0 [iD (IntKind.i64.wrap (s10 - (1 : Int))), iD s9_0, iD s10]) else some (.next 0 [iD (IntKind.i64.wrap (s10 - (1 : Int))), iD s9_0, iD s9_1])))))) else some (.out 0 [iD s9_0, iD s9_1])))
def halfR_L3_S (re fa fb fc fd : Int) (k : Nat) (c : List D) (st : Int) (kb : Nat) (cb : List D) (n lo hi : Int)  : Go.Ev.Rd → Option Go.Ev.Rd
  | .next 0 ds => halfR_L3_S0 re fa fb fc fd k c st kb cb n lo hi ds
  | _ => none
theorem halfR_L3_S_0 (re fa fb fc fd : Int) (k : Nat) (c : List D) (st : Int) (kb : Nat) (cb : List D) (n lo hi : Int)  (ds : List D) : halfR_L3_S re fa fb fc fd k c st kb cb n lo hi (.next 0 ds) = halfR_L3_S0 re fa fb fc fd k c st kb cb n lo hi ds := rfl
theorem halfR_L3_S_ok (re fa fb fc fd : Int) (k : Nat) (c : List D) (st : Int) (kb : Nat) (cb : List D) (n lo hi : Int)  : ∀ s_ t_, halfR_L3_S re fa fb fc fd k c st kb cb n lo hi s_ = some t_ → Step (ctx [52] halfR_sp) Tabs halfR_L3_A (stateOf (halfR_L3_gs re fa fb fc fd k c st kb cb n lo hi s_)) (stateOf (halfR_L3_gs re fa fb fc fd k c st kb cb n lo hi t_)) (halfR_L3_ax t_) ∧ EndOK halfR_L3_A.nx halfR_L3_A.low (halfR_L3_gs re fa fb fc fd k c st kb cb n lo hi) t_
  | .next 0 ds, t_, h => by
    have h_ : halfR_L3_S0 re fa fb fc fd k c st kb cb n lo hi ds = some t_ := h
    clear h
    unfold halfR_L3_S0 at h_
    obtain ⟨⟨s10, s9_0, s9_1⟩, e0, h0⟩ := pullD_elim h_
    clear h_
    obtain rfl := tup_inj e0
    by_cases b1_ : s10 > n
    · have h2_ := (if_pos b1_).symm.trans h0
      obtain ⟨f3_, h4_⟩ := guardP_elim h2_
      obtain ⟨v0, f5_, h6_⟩ := pullD_elim h4_
      replace f5_ := readD_elim f5_
      by_cases b7_ : IntKind.i64.wrap ((2 : Int) * IntKind.i64.wrap (v0 - re)) ≤ hi
      · have h8_ := (if_pos b7_).symm.trans h6_
        obtain ⟨v1, f9_, h10_⟩ := pullD_elim h8_
        replace f9_ := readD_elim f9_
        by_cases b11_ : IntKind.i64.wrap ((2 : Int) * IntKind.i64.wrap (v1 + re)) ≤ lo
        · have h12_ := (if_pos b11_).symm.trans h10_
          obtain rfl := Option.some.inj h12_
          exact ⟨step_pc 3000 (bT 3 []) [iD v0, iD v1] [c_d b1_, c_f f3_, c_f f5_, c_d b7_, c_f f3_, c_f f9_, c_d b11_] [] _ rfl (by kernel_rfl) (by kernel_rfl) (by kernel_rfl) (by kernel_rfl) (by kernel_rfl) (by kernel_rfl), trivial⟩
        have h12_ := (if_neg b11_).symm.trans h10_
        obtain rfl := Option.some.inj h12_
        exact ⟨step_pc 3000 (bT 2 (bF 1 [])) [iD v0, iD v1] [c_d b1_, c_f f3_, c_f f5_, c_d b7_, c_f f3_, c_f f9_, c_n b11_] [] _ rfl (by kernel_rfl) (by kernel_rfl) (by kernel_rfl) (by kernel_rfl) (by kernel_rfl) (by kernel_rfl), trivial⟩
      have h8_ := (if_neg b7_).symm.trans h6_
      obtain ⟨v2, f13_, h14_⟩ := pullD_elim h8_
      replace f13_ := readD_elim f13_
      by_cases b15_ : IntKind.i64.wrap ((2 : Int) * IntKind.i64.wrap (v2 + re)) ≤ lo
      · have h16_ := (if_pos b15_).symm.trans h14_
        obtain rfl := Option.some.inj h16_
        exact ⟨step_pc 3000 (bT 1 (bF 1 (bT 1 []))) [iD v0, iD v2] [c_d b1_, c_f f3_, c_f f5_, c_n b7_, c_f f3_, c_f f13_, c_d b15_] [] _ rfl (by kernel_rfl) (by kernel_rfl) (by kernel_rfl) (by kernel_rfl) (by kernel_rfl) (by kernel_rfl), trivial⟩
      have h16_ := (if_neg b15_).symm.trans h14_
      obtain rfl := Option.some.inj h16_
      exact ⟨step_pc 3000 (bT 1 (bF 2 [])) [iD v0, iD v2] [c_d b1_, c_f f3_, c_f f5_, c_n b7_, c_f f3_, c_f f13_, c_n b15_] [] _ rfl (by kernel_rfl) (by kernel_rfl) (by kernel_rfl) (by kernel_rfl) (by kernel_rfl) (by kernel_rfl), trivial⟩
    have h2_ := (if_neg b1_).symm.trans h0
    obtain rfl := Option.some.inj h2_
    exact ⟨step_pc 3000 (bF 1 []) [] [c_n b1_] [] _ rfl (by kernel_rfl) (by kernel_rfl) (by kernel_rfl) (by kernel_rfl) (by kernel_rfl) (by kernel_rfl), by kernel_rfl, by kernel_rfl⟩
  | .next (_ + 1) _, _, h => by cases h
  | .out _ _, _, h => by cases h
theorem halfR_L3_go (re fa fb fc fd : Int) (k : Nat) (c : List D) (st : Int) (kb : Nat) (cb : List D) (n lo hi : Int)  {q : Nat} {ds : List D} {j : Nat} {es : List D} (h : runR (halfR_L3_S re fa fb fc fd k c st kb cb n lo hi) (.next q ds) = some (.out j es)) : Runs (ctx [52] halfR_sp) Tabs halfR_L3_A (stateOf (halfR_L3_gs re fa fb fc fd k c st kb cb n lo hi (.next q ds))) (stateOf (halfR_L3_gs re fa fb fc fd k c st kb cb n lo hi (.out j es))) (halfR_L3_ax (.out j es)) ∧ (nxtOf (halfR_L3_gs re fa fb fc fd k c st kb cb n lo hi (.out j es)), lowGS (halfR_L3_gs re fa fb fc fd k c st kb cb n lo hi (.out j es))) = (halfR_L3_A.nx, halfR_L3_A.low) :=
  runs_of' (good true _ _) halfR_L3_ok (ax := halfR_L3_ax) (fun _ _ => rfl) (fun _ _ => axOf_end _) (halfR_L3_S_ok re fa fb fc fd k c st kb cb n lo hi) h
theorem halfR_L3_in0 (re fa fb fc fd : Int) (k : Nat) (c : List D) (st : Int) (kb : Nat) (cb : List D) (n lo hi : Int)  {es : List D} (h : runR (halfR_L3_S re fa fb fc fd k c st kb cb n lo hi) (.next 0 [iD ((IntKind.i64.wrap ((kb : Int) - (1 : Int)))), iD ((-1 : Int)), iD ((-1 : Int))]) = some (.out 0 es)) : LoopC (loopAt Try.prog 52 0) (halfR_L3_E re fa fb fc fd k c st kb cb n lo hi) 7 noFrame halfR_x3_0 es :=
  have r := halfR_L3_go re fa fb fc fd k c st kb cb n lo hi h
  loopin_as rfl (loop_in (l := halfR_L3_A) (E := (halfR_L3_E re fa fb fc fd k c st kb cb n lo hi)) (S := stateOf (halfR_L3_gs re fa fb fc fd k c st kb cb n lo hi (.next 0 [iD ((IntKind.i64.wrap ((kb : Int) - (1 : Int)))), iD ((-1 : Int)), iD ((-1 : Int))]))) (ns := nsOf (halfR_L3_gs re fa fb fc fd k c st kb cb n lo hi (.next 0 [iD ((IntKind.i64.wrap ((kb : Int) - (1 : Int)))), iD ((-1 : Int)), iD ((-1 : Int))]))) halfR_L3_ok r.1 r.2 (by kernel_rfl) (by kernel_rfl) (by kernel_rfl) (by kernel_rfl))
def halfR_M (re fa fb fc fd : Int) (k : Nat) (c : List D) (st : Int) (kb : Nat) (cb : List D) (n lo hi : Int) : Option D := bindL (runR (halfR_L3_S re fa fb fc fd k c st kb cb n lo hi) (.next 0 [iD ((IntKind.i64.wrap ((kb : Int) - (1 : Int)))), iD ((-1 : Int)), iD ((-1 : Int))])) fun j ds => (if j = 0 then pullD (α := Int × Int) (some (.tup ds)) (fun d => ((D.vi (D.at d 0)), (D.vi (D.at d 1)))) (fun (l0, l1) => .tup [iD l0, iD l1]) fun (l0, l1) => (some (.agg [iD l0, iD l1])) else none)
theorem halfR_M_ok (re fa fb fc fd : Int) (k : Nat) (c : List D) (st : Int) (kb : Nat) (cb : List D) (n lo hi : Int) {r : D} (h : halfR_M re fa fb fc fd k c st kb cb n lo hi = some r) : Con 52 [.agg [iD re, iD fa, iD fb, iD fc, iD fd, .list k c], .agg [iD st, .list kb cb], iD n, .agg [iD lo, iD hi]] r := by
  unfold halfR_M at h
  obtain ⟨j, ds, e1_, h2_⟩ := bindL_elim h
  by_cases j3_ : j = 0
  · have h6_ := (if_pos j3_).symm.trans h2_
    clear h2_
    subst j3_
    obtain ⟨⟨l0, l1⟩, e4_, h7_⟩ := pullD_elim h6_
    clear h6_
    obtain rfl := tup_inj e4_
    have k5_ := halfR_L3_in0 re fa fb fc fd k c st kb cb n lo hi e1_
    obtain rfl := Option.some.inj h7_
    exact con_pc (op := true) (I := [52]) (sp := halfR_sp) 3000 [] [.tup [iD (Int.ofNat 0), iD l0, iD l1]] [] [k_l k5_ [] [.tup [iD (Int.ofNat 0), iD l0, iD l1]] []] (by kernel_rfl)
  have h8_ := (if_neg j3_).symm.trans h2_
  clear h2_
  cases h8_
def m_52 (ds : List D) : Option D := pullD (α := Int × Int × Int × Int × Int × Nat × (List D) × Int × Nat × (List D) × Int × Int × Int) (some (.tup ds)) (fun d => ((D.vi (D.at (D.at d 0) 0)), (D.vi (D.at (D.at d 0) 1)), (D.vi (D.at (D.at d 0) 2)), (D.vi (D.at (D.at d 0) 3)), (D.vi (D.at (D.at d 0) 4)), (D.ln (D.at (D.at d 0) 5)), (D.lc (D.at (D.at d 0) 5)), (D.vi (D.at (D.at d 1) 0)), (D.ln (D.at (D.at d 1) 1)), (D.lc (D.at (D.at d 1) 1)), (D.vi (D.at d 2)), (D.vi (D.at (D.at d 3) 0)), (D.vi (D.at (D.at d 3) 1)))) (fun (re, fa, fb, fc, fd, k, c, st, kb, cb, n, lo, hi) => .tup [.agg [iD re, iD fa, iD fb, iD fc, iD fd, .list k c], .agg [iD st, .list kb cb], iD n, .agg [iD lo, iD hi]]) fun (re, fa, fb, fc, fd, k, c, st, kb, cb, n, lo, hi) => halfR_M re fa fb fc fd k c st kb cb n lo hi
theorem m_52_ok {ds : List D} {r : D} (h : m_52 ds = some r) : Con 52 ds r := by
  unfold m_52 at h
  obtain ⟨⟨re, fa, fb, fc, fd, k, c, st, kb, cb, n, lo, hi⟩, e0, h0⟩ := pullD_elim h
  obtain rfl := tup_inj e0
  exact halfR_M_ok re fa fb fc fd k c st kb cb n lo hi h0
theorem m_52_eq (re fa fb fc fd : Int) (k : Nat) (c : List D) (st : Int) (kb : Nat) (cb : List D) (n lo hi : Int) : m_52 [.agg [iD re, iD fa, iD fb, iD fc, iD fd, .list k c], .agg [iD st, .list kb cb], iD n, .agg [iD lo, iD hi]] = halfR_M re fa fb fc fd k c st kb cb n lo hi := pullD_some (re, fa, fb, fc, fd, k, c, st, kb, cb, n, lo, hi) rfl rfl
def figuresR_sp : List LSpec := []
def figuresR_M (re fa fb fc fd : Int) (k : Nat) (c : List D) (st : Int) (kb : Nat) (cb : List D) : Option D := pullD (α := Int) (m_17 [.agg [iD re, iD fa, iD fb, iD fc, iD fd, .list k c], .agg [iD st, .list kb cb]]) (fun d => ((D.vi d))) (fun r0 => iD r0) fun r0 => ((if r0 ≠ (0 : Int) then some (.tup [(shNL3_0 (0 : Int) (0 : Int) (0 : Int) (0 : Int) (0 : Int) (0 : Int) (0 : Int) (0 : Int) (0 : Int)), iD r0]) else pullD (α := Int × Int × Int) (m_18 [.agg [iD re, iD fa, iD fb, iD fc, iD fd, .list k c], .agg [iD st, .list kb cb]]) (fun d => ((D.vi (D.at d 0)), (D.vi (D.at (D.at d 1) 0)), (D.vi (D.at (D.at d 1) 1)))) (fun (r1, r2, r3) => .tup [iD r1, .agg [iD r2, iD r3]]) fun (r1, r2, r3) => ((if r2 ≤ (0 : Int) then some (.tup [(shNL3_0 (0 : Int) (0 : Int) (0 : Int) (0 : Int) (0 : Int) (0 : Int) (0 : Int) (0 : Int) (0 : Int)), iD (21 : Int)]) else pullD (α := Int × Int) (m_51 [.agg [iD re, iD fa, iD fb, iD fc, iD fd, .list k c], .agg [iD st, .list kb cb], iD (3 : Int), .agg [iD r2, iD r3]]) (fun d => ((D.vi (D.at d 0)), (D.vi (D.at d 1)))) (fun (r4, r5) => .agg [iD r4, iD r5]) fun (r4, r5) => (pullD (α := Int × Int) (m_51 [.agg [iD re, iD fa, iD fb, iD fc, iD fd, .list k c], .agg [iD st, .list kb cb], iD (9 : Int), .agg [iD r2, iD r3]]) (fun d => ((D.vi (D.at d 0)), (D.vi (D.at d 1)))) (fun (r6, r7) => .agg [iD r6, iD r7]) fun (r6, r7) => (pullD (α := Int × Int) (m_52 [.agg [iD re, iD fa, iD fb, iD fc, iD fd, .list k c], .agg [iD st, .list kb cb], iD r1, .agg [iD r2, iD r3]]) (fun d => ((D.vi (D.at d 0)), (D.vi (D.at d 1)))) (fun (r8, r9) => .agg [iD r8, iD r9]) fun (r8, r9) => ((if r5 < (0 : Int) then some (.tup [(shNL3_0 (0 : Int) (0 : Int) (0 : Int) (0 : Int) (0 : Int) (0 : Int) (0 : Int) (0 : Int) (0 : Int)), iD (12 : Int)]) else (if r7 < (0 : Int) then some (.tup [(shNL3_0 (0 : Int) (0 : Int) (0 : Int) (0 : Int) (0 : Int) (0 : Int) (0 : Int) (0 : Int) (0 : Int)), iD (12 : Int)]) else (if r9 < (0 : Int) then some (.tup [(shNL3_0 (0 : Int) (0 : Int) (0 : Int) (0 : Int) (0 : Int) (0 : Int) (0 : Int) (0 : Int) (0 : Int)), iD (12 : Int)]) else some (.tup [(shNL3_0 r1 r2 r3 r4 r5 r6 r7 r8 r9), iD (0 : Int)])))))))))))
theorem figuresR_M_ok (re fa fb fc fd : Int) (k : Nat) (c : List D) (st : Int) (kb : Nat) (cb : List D) {r : D} (h : figuresR_M re fa fb fc fd k c st kb cb = some r) : Con 16 [.agg [iD re, iD fa, iD fb, iD fc, iD fd, .list k c], .agg [iD st, .list kb cb]] r := by
  unfold figuresR_M at h
  obtain ⟨r0, f1_, h2_⟩ := pullD_elim h
  replace f1_ := m_17_ok f1_
  by_cases b3_ : r0 ≠ (0 : Int)
  · have h4_ := (if_pos b3_).symm.trans h2_
    obtain rfl := Option.some.inj h4_
    exact con_pc (op := true) (I := [16]) (sp := figuresR_sp) 3000 (bT 1 []) [iD r0] [c_b b3_] [k_c f1_] (by kernel_rfl)
  have h4_ := (if_neg b3_).symm.trans h2_
  have b5_ : r0 = (0 : Int) := by first | exact b3_ | simpa using b3_
  obtain ⟨⟨r1, r2, r3⟩, f6_, h7_⟩ := pullD_elim h4_
  replace f6_ := m_18_ok f6_
  by_cases b8_ : r2 ≤ (0 : Int)
  · have h9_ := (if_pos b8_).symm.trans h7_
    obtain rfl := Option.some.inj h9_
    exact con_pc (op := true) (I := [16]) (sp := figuresR_sp) 3000 (bF 1 (bT 1 [])) [iD r0, .tup [iD r1, .agg [iD r2, iD r3]]] [c_bn b5_, c_d b8_] [k_c f1_, k_c f6_] (by kernel_rfl)
  have h9_ := (if_neg b8_).symm.trans h7_
  obtain ⟨⟨r4, r5⟩, f10_, h11_⟩ := pullD_elim h9_
  replace f10_ := m_51_ok f10_
  obtain ⟨⟨r6, r7⟩, f12_, h13_⟩ := pullD_elim h11_
  replace f12_ := m_51_ok f12_
  obtain ⟨⟨r8, r9⟩, f14_, h15_⟩ := pullD_elim h13_
  replace f14_ := m_52_ok f14_
  by_cases b16_ : r5 < (0 : Int)
  · have h17_ := (if_pos b16_).symm.trans h15_
    obtain rfl := Option.some.inj h17_
    exact con_pc (op := true) (I := [16]) (sp := figuresR_sp) 3000 (bF 2 (bT 11 [])) [iD r0, .tup [iD r1, .agg [iD r2, iD r3]], .agg [iD r4, iD r5], .agg [iD r6, iD r7], .agg [iD r8, iD r9]] [c_bn b5_, c_n b8_, c_d b16_, c_d b16_, c_d b16_, c_d b16_, c_d b16_, c_T, c_T, c_T, c_T, c_T, c_T] [k_c f1_, k_c f6_, k_c f10_, k_c f12_, k_c f14_] (by kernel_rfl)
  have h17_ := (if_neg b16_).symm.trans h15_
  by_cases b18_ : r7 < (0 : Int)
  · have h19_ := (if_pos b18_).symm.trans h17_
    obtain rfl := Option.some.inj h19_
    exact con_pc (op := true) (I := [16]) (sp := figuresR_sp) 3000 (bF 7 (bT 6 [])) [iD r0, .tup [iD r1, .agg [iD r2, iD r3]], .agg [iD r4, iD r5], .agg [iD r6, iD r7], .agg [iD r8, iD r9]] [c_bn b5_, c_n b8_, c_n b16_, c_n b16_, c_n b16_, c_n b16_, c_n b16_, c_d b18_, c_d b18_, c_d b18_, c_d b18_, c_d b18_, c_T] [k_c f1_, k_c f6_, k_c f10_, k_c f12_, k_c f14_] (by kernel_rfl)
  have h19_ := (if_neg b18_).symm.trans h17_
  by_cases b20_ : r9 < (0 : Int)
  · have h21_ := (if_pos b20_).symm.trans h19_
    obtain rfl := Option.some.inj h21_
    exact con_pc (op := true) (I := [16]) (sp := figuresR_sp) 3000 (bF 12 (bT 1 [])) [iD r0, .tup [iD r1, .agg [iD r2, iD r3]], .agg [iD r4, iD r5], .agg [iD r6, iD r7], .agg [iD r8, iD r9]] [c_bn b5_, c_n b8_, c_n b16_, c_n b16_, c_n b16_, c_n b16_, c_n b16_, c_n b18_, c_n b18_, c_n b18_, c_n b18_, c_n b18_, c_d b20_] [k_c f1_, k_c f6_, k_c f10_, k_c f12_, k_c f14_] (by kernel_rfl)
  have h21_ := (if_neg b20_).symm.trans h19_
  obtain rfl := Option.some.inj h21_
  exact con_pc (op := true) (I := [16]) (sp := figuresR_sp) 3000 (bF 13 []) [iD r0, .tup [iD r1, .agg [iD r2, iD r3]], .agg [iD r4, iD r5], .agg [iD r6, iD r7], .agg [iD r8, iD r9]] [c_bn b5_, c_n b8_, c_n b16_, c_n b16_, c_n b16_, c_n b16_, c_n b16_, c_n b18_, c_n b18_, c_n b18_, c_n b18_, c_n b18_, c_n b20_] [k_c f1_, k_c f6_, k_c f10_, k_c f12_, k_c f14_] (by kernel_rfl)
def m_16 (ds : List D) : Option D := pullD (α := Int × Int × Int × Int × Int × Nat × (List D) × Int × Nat × (List D)) (some (.tup ds)) (fun d => ((D.vi (D.at (D.at d 0) 0)), (D.vi (D.at (D.at d 0) 1)), (D.vi (D.at (D.at d 0) 2)), (D.vi (D.at (D.at d 0) 3)), (D.vi (D.at (D.at d 0) 4)), (D.ln (D.at (D.at d 0) 5)), (D.lc (D.at (D.at d 0) 5)), (D.vi (D.at (D.at d 1) 0)), (D.ln (D.at (D.at d 1) 1)), (D.lc (D.at (D.at d 1) 1)))) (fun (re, fa, fb, fc, fd, k, c, st, kb, cb) => .tup [.agg [iD re, iD fa, iD fb, iD fc, iD fd, .list k c], .agg [iD st, .list kb cb]]) fun (re, fa, fb, fc, fd, k, c, st, kb, cb) => figuresR_M re fa fb fc fd k c st kb cb
theorem m_16_ok {ds : List D} {r : D} (h : m_16 ds = some r) : Con 16 ds r := by
  unfold m_16 at h
  obtain ⟨⟨re, fa, fb, fc, fd, k, c, st, kb, cb⟩, e0, h0⟩ := pullD_elim h
  obtain rfl := tup_inj e0
  exact figuresR_M_ok re fa fb fc fd k c st kb cb h0
theorem m_16_eq (re fa fb fc fd : Int) (k : Nat) (c : List D) (st : Int) (kb : Nat) (cb : List D) : m_16 [.agg [iD re, iD fa, iD fb, iD fc, iD fd, .list k c], .agg [iD st, .list kb cb]] = figuresR_M re fa fb fc fd k c st kb cb := pullD_some (re, fa, fb, fc, fd, k, c, st, kb, cb) rfl rfl
end
end Go.Proofs.Ytmohaohdbklkeaa
namespace Go.Proofs.Ytmohaohdbklkeaa
open Go.Ev Go.RowKit
set_option maxRecDepth 100000
set_option maxHeartbeats 8000000
set_option linter.all false
noncomputable section
abbrev shNL4_0 (a0 : Int) (a1 : Int) (a2 : Int) (a3 : Int) (a4 : Int) (a5 : Int) (a6 : Int) (a7 : Int) (a8 : Int) : D := .agg [.one (.int .i64 a0), .one (.int .i64 a1), .one (.int .i64 a2), .one (.int .i64 a3), .one (.int .i64 a4), .one (.int .i64 a5), .one (.int .i64 a6), .one (.int .i64 a7), .one (.int .i64 a8)]
def shNL4_0P (d : D) : Int × Int × Int × Int × Int × Int × Int × Int × Int := (D.vi (D.at d 0), D.vi (D.at d 1), D.vi (D.at d 2), D.vi (D.at d 3), D.vi (D.at d 4), D.vi (D.at d 5), D.vi (D.at d 6), D.vi (D.at d 7), D.vi (D.at d 8))
def law3_sp : List LSpec := []
def law3_M (re fa fb fc fd : Int) (k : Nat) (c : List D) (st : Int) (kb : Nat) (cb : List D) : Option D := pullD (α := Bool) (m_9 []) (fun d => ((D.vb d))) (fun r0 => .one (.bool r0)) fun r0 => ((if r0 = false then some (.one (.bool false)) else pullD (α := Bool) (m_10 [.agg [iD st, .list kb cb]]) (fun d => ((D.vb d))) (fun r1 => .one (.bool r1)) fun r1 => ((if r1 = false then some (.one (.bool true)) else pullD (α := Bool) (m_11 [.agg [iD re, iD fa, iD fb, iD fc, iD fd, .list k c]]) (fun d => ((D.vb d))) (fun r2 => .one (.bool r2)) fun r2 => ((if r2 = false then some (.one (.bool true)) else pullD (α := Int × Int × Int × Int × Int × Nat × (List D)) (m_13 [.agg [iD re, iD fa, iD fb, iD fc, iD fd, .list k c]]) (fun d => ((D.vi (D.at d 0)), (D.vi (D.at d 1)), (D.vi (D.at d 2)), (D.vi (D.at d 3)), (D.vi (D.at d 4)), (D.ln (D.at d 5)), (D.lc (D.at d 5)))) (fun (r3, r4, r5, r6, r7, k8, c9) => .agg [iD r3, iD r4, iD r5, iD r6, iD r7, .list k8 c9]) fun (r3, r4, r5, r6, r7, k8, c9) => (pullD (α := Int × Nat × (List D)) (m_14 [.agg [iD st, .list kb cb]]) (fun d => ((D.vi (D.at d 0)), (D.ln (D.at d 1)), (D.lc (D.at d 1)))) (fun (r10, k11, c12) => .agg [iD r10, .list k11 c12]) fun (r10, k11, c12) => (pullD (α := Int × Int × Int × Int) (m_12 [.agg [iD r3, iD r4, iD r5, iD r6, iD r7, .list k8 c9], .agg [iD r10, .list k11 c12]]) (fun d => ((D.vi (D.at d 0)), (D.vi (D.at (D.at d 1) 0)), (D.vi (D.at (D.at d 1) 1)), (D.vi (D.at d 2)))) (fun (r13, r14, r15, r16) => .tup [iD r13, .agg [iD r14, iD r15], iD r16]) fun (r13, r14, r15, r16) => (pullD (α := Int × Int × Int × Int × Int × Nat × (List D)) (m_13 [.agg [iD re, iD fa, iD fb, iD fc, iD fd, .list k c]]) (fun d => ((D.vi (D.at d 0)), (D.vi (D.at d 1)), (D.vi (D.at d 2)), (D.vi (D.at d 3)), (D.vi (D.at d 4)), (D.ln (D.at d 5)), (D.lc (D.at d 5)))) (fun (r17, r18, r19, r20, r21, k22, c23) => .agg [iD r17, iD r18, iD r19, iD r20, iD r21, .list k22 c23]) fun (r17, r18, r19, r20, r21, k22, c23) => (pullD (α := Int × Nat × (List D)) (m_14 [.agg [iD st, .list kb cb]]) (fun d => ((D.vi (D.at d 0)), (D.ln (D.at d 1)), (D.lc (D.at d 1)))) (fun (r24, k25, c26) => .agg [iD r24, .list k25 c26]) fun (r24, k25, c26) => (pullD (α := Int × Int × Int × Int × Int × Int × Int × Int × Int × Int) (m_15 [.agg [iD r17, iD r18, iD r19, iD r20, iD r21, .list k22 c23], .agg [iD r24, .list k25 c26]]) (fun d => ((D.vi (D.at (D.at d 0) 0)), (D.vi (D.at (D.at d 0) 1)), (D.vi (D.at (D.at d 0) 2)), (D.vi (D.at (D.at d 0) 3)), (D.vi (D.at (D.at d 0) 4)), (D.vi (D.at (D.at d 0) 5)), (D.vi (D.at (D.at d 0) 6)), (D.vi (D.at (D.at d 0) 7)), (D.vi (D.at (D.at d 0) 8)), (D.vi (D.at d 1)))) (fun (r27, r28, r29, r30, r31, r32, r33, r34, r35, r36) => .tup [(shNL4_0 r27 r28 r29 r30 r31 r32 r33 r34 r35), iD r36]) fun (r27, r28, r29, r30, r31, r32, r33, r34, r35, r36) => (pullD (α := Int × Int × Int × Int × Int × Int × Int × Int × Int × Int) (m_16 [.agg [iD re, iD fa, iD fb, iD fc, iD fd, .list k c], .agg [iD st, .list kb cb]]) (fun d => ((D.vi (D.at (D.at d 0) 0)), (D.vi (D.at (D.at d 0) 1)), (D.vi (D.at (D.at d 0) 2)), (D.vi (D.at (D.at d 0) 3)), (D.vi (D.at (D.at d 0) 4)), (D.vi (D.at (D.at d 0) 5)), (D.vi (D.at (D.at d 0) 6)), (D.vi (D.at (D.at d 0) 7)), (D.vi (D.at (D.at d 0) 8)), (D.vi (D.at d 1)))) (fun (r37, r38, r39, r40, r41, r42, r43, r44, r45, r46) => .tup [(shNL4_0 r37 r38 r39 r40 r41 r42 r43 r44 r45), iD r46]) fun (r37, r38, r39, r40, r41, r42, r43, r44, r45, r46) => ((if r36 ≠ r46 then some (.one (.bool false)) else (if (!(r27 == r37 && (r28 == r38 && (r29 == r39 && true) && (r30 == r40 && (r31 == r41 && true) && (r32 == r42 && (r33 == r43 && true) && (r34 == r44 && (r35 == r45 && true) && true)))))) = true then some (.one (.bool false)) else pullD (α := Int) (m_17 [.agg [iD re, iD fa, iD fb, iD fc, iD fd, .list k c], .agg [iD st, .list kb cb]]) (fun d => ((D.vi d))) (fun r47 => iD r47) fun r47 => ((if r47 ≠ (0 : Int) then (if r16 = r47 then (if r13 = (0 : Int) then some (.one (.bool (r14 == (0 : Int) && (r15 == (0 : Int) && true)))) else some (.one (.bool false))) else some (.one (.bool false))) else pullD (α := Int × Int × Int) (m_18 [.agg [iD re, iD fa, iD fb, iD fc, iD fd, .list k c], .agg [iD st, .list kb cb]]) (fun d => ((D.vi (D.at d 0)), (D.vi (D.at (D.at d 1) 0)), (D.vi (D.at (D.at d 1) 1)))) (fun (r48, r49, r50) => .tup [iD r48, .agg [iD r49, iD r50]]) fun (r48, r49, r50) => ((if r16 = (0 : Int) then (if r13 = r48 then some (.one (.bool (r14 == r49 && (r15 == r50 && true)))) else some (.one (.bool false))) else some (.one (.bool false)))))))))))))))))))))
theorem law3_M_ok (re fa fb fc fd : Int) (k : Nat) (c : List D) (st : Int) (kb : Nat) (cb : List D) {r : D} (h : law3_M re fa fb fc fd k c st kb cb = some r) : Con 3 [.agg [iD re, iD fa, iD fb, iD fc, iD fd, .list k c], .agg [iD st, .list kb cb]] r := by
  unfold law3_M at h
  obtain ⟨r0, f1_, h2_⟩ := pullD_elim h
  replace f1_ := m_9_ok f1_
  by_cases b3_ : r0 = false
  · have h4_ := (if_pos b3_).symm.trans h2_
    obtain rfl := Option.some.inj h4_
    exact con_pc (op := true) (I := [3]) (sp := law3_sp) 3000 (bT 1 []) [.one (.bool r0)] [c_no b3_] [k_c f1_] (by kernel_rfl)
  have h4_ := (if_neg b3_).symm.trans h2_
  have b5_ : r0 = true := by first | exact b3_ | simpa using b3_
  obtain ⟨r1, f6_, h7_⟩ := pullD_elim h4_
  replace f6_ := m_10_ok f6_
  by_cases b8_ : r1 = false
  · have h9_ := (if_pos b8_).symm.trans h7_
    obtain rfl := Option.some.inj h9_
    exact con_pc (op := true) (I := [3]) (sp := law3_sp) 3000 (bF 1 (bT 5 [])) [.one (.bool r0), .one (.bool r1)] [c_nn b5_, c_no b8_, c_no b8_, c_no b8_, c_no b8_, c_T] [k_c f1_, k_c f6_] (by kernel_rfl)
  have h9_ := (if_neg b8_).symm.trans h7_
  have b10_ : r1 = true := by first | exact b8_ | simpa using b8_
  obtain ⟨r2, f11_, h12_⟩ := pullD_elim h9_
  replace f11_ := m_11_ok f11_
  by_cases b13_ : r2 = false
  · have h14_ := (if_pos b13_).symm.trans h12_
    obtain rfl := Option.some.inj h14_
    exact con_pc (op := true) (I := [3]) (sp := law3_sp) 3000 (bF 5 (bT 1 [])) [.one (.bool r0), .one (.bool r1), .one (.bool r2)] [c_nn b5_, c_nn b10_, c_nn b10_, c_nn b10_, c_nn b10_, c_no b13_] [k_c f1_, k_c f6_, k_c f11_] (by kernel_rfl)
  have h14_ := (if_neg b13_).symm.trans h12_
  have b15_ : r2 = true := by first | exact b13_ | simpa using b13_
  obtain ⟨⟨r3, r4, r5, r6, r7, k8, c9⟩, f16_, h17_⟩ := pullD_elim h14_
  replace f16_ := m_13_ok f16_
  obtain ⟨⟨r10, k11, c12⟩, f18_, h19_⟩ := pullD_elim h17_
  replace f18_ := m_14_ok f18_
  obtain ⟨⟨r13, r14, r15, r16⟩, f20_, h21_⟩ := pullD_elim h19_
  replace f20_ := m_12_ok f20_
  obtain ⟨⟨r17, r18, r19, r20, r21, k22, c23⟩, f22_, h23_⟩ := pullD_elim h21_
  replace f22_ := m_13_ok f22_
  obtain ⟨⟨r24, k25, c26⟩, f24_, h25_⟩ := pullD_elim h23_
  replace f24_ := m_14_ok f24_
  obtain ⟨⟨r27, r28, r29, r30, r31, r32, r33, r34, r35, r36⟩, f26_, h27_⟩ := pullD_elim h25_
  replace f26_ := m_15_ok f26_
  obtain ⟨⟨r37, r38, r39, r40, r41, r42, r43, r44, r45, r46⟩, f28_, h29_⟩ := pullD_elim h27_
  replace f28_ := m_16_ok f28_
  by_cases b30_ : r36 ≠ r46
  · have h31_ := (if_pos b30_).symm.trans h29_
    obtain rfl := Option.some.inj h31_
    exact con_pc (op := true) (I := [3]) (sp := law3_sp) 3000 (bF 6 (bT 5 [])) [.one (.bool r0), .one (.bool r1), .one (.bool r2), .agg [iD r3, iD r4, iD r5, iD r6, iD r7, .list k8 c9], .agg [iD r10, .list k11 c12], .tup [iD r13, .agg [iD r14, iD r15], iD r16], .agg [iD r17, iD r18, iD r19, iD r20, iD r21, .list k22 c23], .agg [iD r24, .list k25 c26], .tup [(shNL4_0 r27 r28 r29 r30 r31 r32 r33 r34 r35), iD r36], .tup [(shNL4_0 r37 r38 r39 r40 r41 r42 r43 r44 r45), iD r46]] [c_nn b5_, c_nn b10_, c_nn b10_, c_nn b10_, c_nn b10_, c_nn b15_, c_b b30_, c_b b30_, c_b b30_, c_b b30_, c_T] [k_c f1_, k_c f6_, k_c f11_, k_c f16_, k_c f18_, k_c f20_, k_c f22_, k_c f24_, k_c f26_, k_c f28_] (by kernel_rfl)
  have h31_ := (if_neg b30_).symm.trans h29_
  have b32_ : r36 = r46 := by first | exact b30_ | simpa using b30_
  by_cases b33_ : (!(r27 == r37 && (r28 == r38 && (r29 == r39 && true) && (r30 == r40 && (r31 == r41 && true) && (r32 == r42 && (r33 == r43 && true) && (r34 == r44 && (r35 == r45 && true) && true)))))) = true
  · have h34_ := (if_pos b33_).symm.trans h31_
    obtain rfl := Option.some.inj h34_
    exact con_pc (op := true) (I := [3]) (sp := law3_sp) 3000 (bF 10 (bT 1 [])) [.one (.bool r0), .one (.bool r1), .one (.bool r2), .agg [iD r3, iD r4, iD r5, iD r6, iD r7, .list k8 c9], .agg [iD r10, .list k11 c12], .tup [iD r13, .agg [iD r14, iD r15], iD r16], .agg [iD r17, iD r18, iD r19, iD r20, iD r21, .list k22 c23], .agg [iD r24, .list k25 c26], .tup [(shNL4_0 r27 r28 r29 r30 r31 r32 r33 r34 r35), iD r36], .tup [(shNL4_0 r37 r38 r39 r40 r41 r42 r43 r44 r45), iD r46]] [c_nn b5_, c_nn b10_, c_nn b10_, c_nn b10_, c_nn b10_, c_nn b15_, c_bn b32_, c_bn b32_, c_bn b32_, c_bn b32_, c_q b33_] [k_c f1_, k_c f6_, k_c f11_, k_c f16_, k_c f18_, k_c f20_, k_c f22_, k_c f24_, k_c f26_, k_c f28_] (by kernel_rfl)
  have h34_ := (if_neg b33_).symm.trans h31_
  have b35_ : (!(r27 == r37 && (r28 == r38 && (r29 == r39 && true) && (r30 == r40 && (r31 == r41 && true) && (r32 == r42 && (r33 == r43 && true) && (r34 == r44 && (r35 == r45 && true) && true)))))) = false := by first | exact b33_ | simpa using b33_
  obtain ⟨r47, f36_, h37_⟩ := pullD_elim h34_
  replace f36_ := m_17_ok f36_
  by_cases b38_ : r47 ≠ (0 : Int)
  · have h39_ := (if_pos b38_).symm.trans h37_
    by_cases b40_ : r16 = r47
    · have h41_ := (if_pos b40_).symm.trans h39_
      by_cases b42_ : r13 = (0 : Int)
      · have h43_ := (if_pos b42_).symm.trans h41_
        obtain rfl := Option.some.inj h43_
        exact con_pc (op := true) (I := [3]) (sp := law3_sp) 3000 (bF 11 (bT 8 [])) [.one (.bool r0), .one (.bool r1), .one (.bool r2), .agg [iD r3, iD r4, iD r5, iD r6, iD r7, .list k8 c9], .agg [iD r10, .list k11 c12], .tup [iD r13, .agg [iD r14, iD r15], iD r16], .agg [iD r17, iD r18, iD r19, iD r20, iD r21, .list k22 c23], .agg [iD r24, .list k25 c26], .tup [(shNL4_0 r27 r28 r29 r30 r31 r32 r33 r34 r35), iD r36], .tup [(shNL4_0 r37 r38 r39 r40 r41 r42 r43 r44 r45), iD r46], iD r47] [c_nn b5_, c_nn b10_, c_nn b10_, c_nn b10_, c_nn b10_, c_nn b15_, c_bn b32_, c_bn b32_, c_bn b32_, c_bn b32_, c_q b35_, c_b b38_, c_e b40_, c_e b40_, c_e b40_, c_e b42_, c_e b42_, c_e b42_, c_e b42_] [k_c f1_, k_c f6_, k_c f11_, k_c f16_, k_c f18_, k_c f20_, k_c f22_, k_c f24_, k_c f26_, k_c f28_, k_c f36_] (by kernel_rfl)
      have h43_ := (if_neg b42_).symm.trans h41_
      have b44_ : r13 ≠ (0 : Int) := by first | exact b42_ | simpa using b42_
      obtain rfl := Option.some.inj h43_
      exact con_pc (op := true) (I := [3]) (sp := law3_sp) 3000 (bF 11 (bT 4 (bF 4 []))) [.one (.bool r0), .one (.bool r1), .one (.bool r2), .agg [iD r3, iD r4, iD r5, iD r6, iD r7, .list k8 c9], .agg [iD r10, .list k11 c12], .tup [iD r13, .agg [iD r14, iD r15], iD r16], .agg [iD r17, iD r18, iD r19, iD r20, iD r21, .list k22 c23], .agg [iD r24, .list k25 c26], .tup [(shNL4_0 r27 r28 r29 r30 r31 r32 r33 r34 r35), iD r36], .tup [(shNL4_0 r37 r38 r39 r40 r41 r42 r43 r44 r45), iD r46], iD r47] [c_nn b5_, c_nn b10_, c_nn b10_, c_nn b10_, c_nn b10_, c_nn b15_, c_bn b32_, c_bn b32_, c_bn b32_, c_bn b32_, c_q b35_, c_b b38_, c_e b40_, c_e b40_, c_e b40_, c_en b44_, c_en b44_, c_en b44_, c_en b44_] [k_c f1_, k_c f6_, k_c f11_, k_c f16_, k_c f18_, k_c f20_, k_c f22_, k_c f24_, k_c f26_, k_c f28_, k_c f36_] (by kernel_rfl)
    have h41_ := (if_neg b40_).symm.trans h39_
    have b45_ : r16 ≠ r47 := by first | exact b40_ | simpa using b40_
    obtain rfl := Option.some.inj h41_
    exact con_pc (op := true) (I := [3]) (sp := law3_sp) 3000 (bF 11 (bT 1 (bF 7 []))) [.one (.bool r0), .one (.bool r1), .one (.bool r2), .agg [iD r3, iD r4, iD r5, iD r6, iD r7, .list k8 c9], .agg [iD r10, .list k11 c12], .tup [iD r13, .agg [iD r14, iD r15], iD r16], .agg [iD r17, iD r18, iD r19, iD r20, iD r21, .list k22 c23], .agg [iD r24, .list k25 c26], .tup [(shNL4_0 r27 r28 r29 r30 r31 r32 r33 r34 r35), iD r36], .tup [(shNL4_0 r37 r38 r39 r40 r41 r42 r43 r44 r45), iD r46], iD r47] [c_nn b5_, c_nn b10_, c_nn b10_, c_nn b10_, c_nn b10_, c_nn b15_, c_bn b32_, c_bn b32_, c_bn b32_, c_bn b32_, c_q b35_, c_b b38_, c_en b45_, c_en b45_, c_en b45_, c_F, c_F, c_F, c_F] [k_c f1_, k_c f6_, k_c f11_, k_c f16_, k_c f18_, k_c f20_, k_c f22_, k_c f24_, k_c f26_, k_c f28_, k_c f36_] (by kernel_rfl)
  have h39_ := (if_neg b38_).symm.trans h37_
  have b46_ : r47 = (0 : Int) := by first | exact b38_ | simpa using b38_
  obtain ⟨⟨r48, r49, r50⟩, f47_, h48_⟩ := pullD_elim h39_
  replace f47_ := m_18_ok f47_
  by_cases b49_ : r16 = (0 : Int)
  · have h50_ := (if_pos b49_).symm.trans h48_
    by_cases b51_ : r13 = r48
    · have h52_ := (if_pos b51_).symm.trans h50_
      obtain rfl := Option.some.inj h52_
      exact con_pc (op := true) (I := [3]) (sp := law3_sp) 3000 (bF 12 (bT 8 [])) [.one (.bool r0), .one (.bool r1), .one (.bool r2), .agg [iD r3, iD r4, iD r5, iD r6, iD r7, .list k8 c9], .agg [iD r10, .list k11 c12], .tup [iD r13, .agg [iD r14, iD r15], iD r16], .agg [iD r17, iD r18, iD r19, iD r20, iD r21, .list k22 c23], .agg [iD r24, .list k25 c26], .tup [(shNL4_0 r27 r28 r29 r30 r31 r32 r33 r34 r35), iD r36], .tup [(shNL4_0 r37 r38 r39 r40 r41 r42 r43 r44 r45), iD r46], iD r47, .tup [iD r48, .agg [iD r49, iD r50]]] [c_nn b5_, c_nn b10_, c_nn b10_, c_nn b10_, c_nn b10_, c_nn b15_, c_bn b32_, c_bn b32_, c_bn b32_, c_bn b32_, c_q b35_, c_bn b46_, c_e b49_, c_e b49_, c_e b49_, c_e b49_, c_e b51_, c_e b51_, c_e b51_, c_e b51_] [k_c f1_, k_c f6_, k_c f11_, k_c f16_, k_c f18_, k_c f20_, k_c f22_, k_c f24_, k_c f26_, k_c f28_, k_c f36_, k_c f47_] (by kernel_rfl)
    have h52_ := (if_neg b51_).symm.trans h50_
    have b53_ : r13 ≠ r48 := by first | exact b51_ | simpa using b51_
    obtain rfl := Option.some.inj h52_
    exact con_pc (op := true) (I := [3]) (sp := law3_sp) 3000 (bF 12 (bT 4 (bF 4 []))) [.one (.bool r0), .one (.bool r1), .one (.bool r2), .agg [iD r3, iD r4, iD r5, iD r6, iD r7, .list k8 c9], .agg [iD r10, .list k11 c12], .tup [iD r13, .agg [iD r14, iD r15], iD r16], .agg [iD r17, iD r18, iD r19, iD r20, iD r21, .list k22 c23], .agg [iD r24, .list k25 c26], .tup [(shNL4_0 r27 r28 r29 r30 r31 r32 r33 r34 r35), iD r36], .tup [(shNL4_0 r37 r38 r39 r40 r41 r42 r43 r44 r45), iD r46], iD r47, .tup [iD r48, .agg [iD r49, iD r50]]] [c_nn b5_, c_nn b10_, c_nn b10_, c_nn b10_, c_nn b10_, c_nn b15_, c_bn b32_, c_bn b32_, c_bn b32_, c_bn b32_, c_q b35_, c_bn b46_, c_e b49_, c_e b49_, c_e b49_, c_e b49_, c_en b53_, c_en b53_, c_en b53_, c_en b53_] [k_c f1_, k_c f6_, k_c f11_, k_c f16_, k_c f18_, k_c f20_, k_c f22_, k_c f24_, k_c f26_, k_c f28_, k_c f36_, k_c f47_] (by kernel_rfl)
  have h50_ := (if_neg b49_).symm.trans h48_
  have b54_ : r16 ≠ (0 : Int) := by first | exact b49_ | simpa using b49_
  obtain rfl := Option.some.inj h50_
  exact con_pc (op := true) (I := [3]) (sp := law3_sp) 3000 (bF 20 []) [.one (.bool r0), .one (.bool r1), .one (.bool r2), .agg [iD r3, iD r4, iD r5, iD r6, iD r7, .list k8 c9], .agg [iD r10, .list k11 c12], .tup [iD r13, .agg [iD r14, iD r15], iD r16], .agg [iD r17, iD r18, iD r19, iD r20, iD r21, .list k22 c23], .agg [iD r24, .list k25 c26], .tup [(shNL4_0 r27 r28 r29 r30 r31 r32 r33 r34 r35), iD r36], .tup [(shNL4_0 r37 r38 r39 r40 r41 r42 r43 r44 r45), iD r46], iD r47, .tup [iD r48, .agg [iD r49, iD r50]]] [c_nn b5_, c_nn b10_, c_nn b10_, c_nn b10_, c_nn b10_, c_nn b15_, c_bn b32_, c_bn b32_, c_bn b32_, c_bn b32_, c_q b35_, c_bn b46_, c_en b54_, c_en b54_, c_en b54_, c_en b54_, c_F, c_F, c_F, c_F] [k_c f1_, k_c f6_, k_c f11_, k_c f16_, k_c f18_, k_c f20_, k_c f22_, k_c f24_, k_c f26_, k_c f28_, k_c f36_, k_c f47_] (by kernel_rfl)
def m_3 (ds : List D) : Option D := pullD (α := Int × Int × Int × Int × Int × Nat × (List D) × Int × Nat × (List D)) (some (.tup ds)) (fun d => ((D.vi (D.at (D.at d 0) 0)), (D.vi (D.at (D.at d 0) 1)), (D.vi (D.at (D.at d 0) 2)), (D.vi (D.at (D.at d 0) 3)), (D.vi (D.at (D.at d 0) 4)), (D.ln (D.at (D.at d 0) 5)), (D.lc (D.at (D.at d 0) 5)), (D.vi (D.at (D.at d 1) 0)), (D.ln (D.at (D.at d 1) 1)), (D.lc (D.at (D.at d 1) 1)))) (fun (re, fa, fb, fc, fd, k, c, st, kb, cb) => .tup [.agg [iD re, iD fa, iD fb, iD fc, iD fd, .list k c], .agg [iD st, .list kb cb]]) fun (re, fa, fb, fc, fd, k, c, st, kb, cb) => law3_M re fa fb fc fd k c st kb cb
theorem m_3_ok {ds : List D} {r : D} (h : m_3 ds = some r) : Con 3 ds r := by
  unfold m_3 at h
  obtain ⟨⟨re, fa, fb, fc, fd, k, c, st, kb, cb⟩, e0, h0⟩ := pullD_elim h
  obtain rfl := tup_inj e0
  exact law3_M_ok re fa fb fc fd k c st kb cb h0
theorem m_3_eq (re fa fb fc fd : Int) (k : Nat) (c : List D) (st : Int) (kb : Nat) (cb : List D) : m_3 [.agg [iD re, iD fa, iD fb, iD fc, iD fd, .list k c], .agg [iD st, .list kb cb]] = law3_M re fa fb fc fd k c st kb cb := pullD_some (re, fa, fb, fc, fd, k, c, st, kb, cb) rfl rfl
end
end Go.Proofs.Ytmohaohdbklkeaa
namespace Go.Proofs.Ytmohaohdbklkeaa
open Go.Ev Go.RowKit
set_option maxRecDepth 100000
set_option maxHeartbeats 8000000
set_option linter.all false
noncomputable section
abbrev shNL5_0 (a0 : Int) (a1 : Int) (a2 : Int) (a3 : Int) (a4 : Int) (a5 : Int) (a6 : Int) (a7 : Int) (a8 : Int) : D := .agg [.one (.int .i64 a0), .one (.int .i64 a1), .one (.int .i64 a2), .one (.int .i64 a3), .one (.int .i64 a4), .one (.int .i64 a5), .one (.int .i64 a6), .one (.int .i64 a7), .one (.int .i64 a8)]
def shNL5_0P (d : D) : Int × Int × Int × Int × Int × Int × Int × Int × Int := (D.vi (D.at d 0), D.vi (D.at d 1), D.vi (D.at d 2), D.vi (D.at d 3), D.vi (D.at d 4), D.vi (D.at d 5), D.vi (D.at d 6), D.vi (D.at d 7), D.vi (D.at d 8))
def mod_sp : List LSpec := []
def mod_M (a b : Int) : Option D := guardP (b ≠ (0 : Int)) ((if a.tmod b < (0 : Int) then some (iD (IntKind.i64.wrap (a.tmod b + b))) else some (iD (a.tmod b))))
theorem mod_M_ok (a b : Int) {r : D} (h : mod_M a b = some r) : Con 32 [iD a, iD b] r := by
  unfold mod_M at h
  obtain ⟨f1_, h2_⟩ := guardP_elim h
  by_cases b3_ : a.tmod b < (0 : Int)
  · have h4_ := (if_pos b3_).symm.trans h2_
    obtain rfl := Option.some.inj h4_
    exact con_pc (op := true) (I := [32]) (sp := mod_sp) 3000 (bT 1 []) [] [c_en f1_, c_d b3_] [] (by kernel_rfl)
  have h4_ := (if_neg b3_).symm.trans h2_
  obtain rfl := Option.some.inj h4_
  exact con_pc (op := true) (I := [32]) (sp := mod_sp) 3000 (bF 1 []) [] [c_en f1_, c_n b3_] [] (by kernel_rfl)
def m_32 (ds : List D) : Option D := pullD (α := Int × Int) (some (.tup ds)) (fun d => ((D.vi (D.at d 0)), (D.vi (D.at d 1)))) (fun (a, b) => .tup [iD a, iD b]) fun (a, b) => mod_M a b
theorem m_32_ok {ds : List D} {r : D} (h : m_32 ds = some r) : Con 32 ds r := by
  unfold m_32 at h
  obtain ⟨⟨a, b⟩, e0, h0⟩ := pullD_elim h
  obtain rfl := tup_inj e0
  exact mod_M_ok a b h0
theorem m_32_eq (a b : Int) : m_32 [iD a, iD b] = mod_M a b := pullD_some (a, b) rfl rfl
def figErr_sp : List LSpec := []
def figErr_M (ga pl ph tl th nl nh ul uh : Int) : Option D := pullD (α := Bool) (m_33 [iD ga, iD (0 : Int), iD (63 : Int)]) (fun d => ((D.vb d))) (fun r0 => .one (.bool r0)) fun r0 => ((if r0 = false then some (iD (2 : Int)) else pullD (α := Bool) (m_33 [iD pl, iD (1 : Int), iD (4196 : Int)]) (fun d => ((D.vb d))) (fun r1 => .one (.bool r1)) fun r1 => ((if r1 = false then some (iD (2 : Int)) else pullD (α := Bool) (m_33 [iD ph, iD (1 : Int), iD (4196 : Int)]) (fun d => ((D.vb d))) (fun r2 => .one (.bool r2)) fun r2 => ((if r2 = false then some (iD (2 : Int)) else pullD (α := Bool) (m_33 [iD tl, iD (0 : Int), iD (63 : Int)]) (fun d => ((D.vb d))) (fun r3 => .one (.bool r3)) fun r3 => ((if r3 = false then some (iD (2 : Int)) else pullD (α := Bool) (m_33 [iD th, iD (0 : Int), iD (63 : Int)]) (fun d => ((D.vb d))) (fun r4 => .one (.bool r4)) fun r4 => ((if r4 = false then some (iD (2 : Int)) else pullD (α := Bool) (m_33 [iD nl, iD (0 : Int), iD (63 : Int)]) (fun d => ((D.vb d))) (fun r5 => .one (.bool r5)) fun r5 => ((if r5 = false then some (iD (2 : Int)) else pullD (α := Bool) (m_33 [iD nh, iD (0 : Int), iD (63 : Int)]) (fun d => ((D.vb d))) (fun r6 => .one (.bool r6)) fun r6 => ((if r6 = false then some (iD (2 : Int)) else pullD (α := Bool) (m_33 [iD ul, iD (0 : Int), iD (63 : Int)]) (fun d => ((D.vb d))) (fun r7 => .one (.bool r7)) fun r7 => ((if r7 = false then some (iD (2 : Int)) else pullD (α := Bool) (m_33 [iD uh, iD (0 : Int), iD (63 : Int)]) (fun d => ((D.vb d))) (fun r8 => .one (.bool r8)) fun r8 => ((if r8 = false then some (iD (2 : Int)) else (if pl > ph then some (iD (9 : Int)) else (if tl > th then some (iD (9 : Int)) else (if nl > nh then some (iD (9 : Int)) else (if ul > uh then some (iD (9 : Int)) else some (iD (0 : Int))))))))))))))))))))))))
theorem figErr_M_ok (ga pl ph tl th nl nh ul uh : Int) {r : D} (h : figErr_M ga pl ph tl th nl nh ul uh = some r) : Con 31 [(shNL5_0 ga pl ph tl th nl nh ul uh)] r := by
  unfold figErr_M at h
  obtain ⟨r0, f1_, h2_⟩ := pullD_elim h
  replace f1_ := m_33_ok f1_
  by_cases b3_ : r0 = false
  · have h4_ := (if_pos b3_).symm.trans h2_
    obtain rfl := Option.some.inj h4_
    exact con_pc (op := true) (I := [31]) (sp := figErr_sp) 3000 (bT 15 []) [.one (.bool r0)] [c_no b3_, c_no b3_, c_no b3_, c_no b3_, c_no b3_, c_no b3_, c_no b3_, c_T, c_T, c_T, c_T, c_T, c_T, c_T, c_T] [k_c f1_] (by kernel_rfl)
  have h4_ := (if_neg b3_).symm.trans h2_
  have b5_ : r0 = true := by first | exact b3_ | simpa using b3_
  obtain ⟨r1, f6_, h7_⟩ := pullD_elim h4_
  replace f6_ := m_33_ok f6_
  by_cases b8_ : r1 = false
  · have h9_ := (if_pos b8_).symm.trans h7_
    obtain rfl := Option.some.inj h9_
    exact con_pc (op := true) (I := [31]) (sp := figErr_sp) 3000 (bF 7 (bT 8 [])) [.one (.bool r0), .one (.bool r1)] [c_nn b5_, c_nn b5_, c_nn b5_, c_nn b5_, c_nn b5_, c_nn b5_, c_nn b5_, c_no b8_, c_no b8_, c_no b8_, c_no b8_, c_no b8_, c_no b8_, c_no b8_, c_T] [k_c f1_, k_c f6_] (by kernel_rfl)
  have h9_ := (if_neg b8_).symm.trans h7_
  have b10_ : r1 = true := by first | exact b8_ | simpa using b8_
  obtain ⟨r2, f11_, h12_⟩ := pullD_elim h9_
  replace f11_ := m_33_ok f11_
  by_cases b13_ : r2 = false
  · have h14_ := (if_pos b13_).symm.trans h12_
    obtain rfl := Option.some.inj h14_
    exact con_pc (op := true) (I := [31]) (sp := figErr_sp) 3000 (bF 14 (bT 1 [])) [.one (.bool r0), .one (.bool r1), .one (.bool r2)] [c_nn b5_, c_nn b5_, c_nn b5_, c_nn b5_, c_nn b5_, c_nn b5_, c_nn b5_, c_nn b10_, c_nn b10_, c_nn b10_, c_nn b10_, c_nn b10_, c_nn b10_, c_nn b10_, c_no b13_] [k_c f1_, k_c f6_, k_c f11_] (by kernel_rfl)
  have h14_ := (if_neg b13_).symm.trans h12_
  have b15_ : r2 = true := by first | exact b13_ | simpa using b13_
  obtain ⟨r3, f16_, h17_⟩ := pullD_elim h14_
  replace f16_ := m_33_ok f16_
  by_cases b18_ : r3 = false
  · have h19_ := (if_pos b18_).symm.trans h17_
    obtain rfl := Option.some.inj h19_
    exact con_pc (op := true) (I := [31]) (sp := figErr_sp) 3000 (bF 15 (bT 10 [])) [.one (.bool r0), .one (.bool r1), .one (.bool r2), .one (.bool r3)] [c_nn b5_, c_nn b5_, c_nn b5_, c_nn b5_, c_nn b5_, c_nn b5_, c_nn b5_, c_nn b10_, c_nn b10_, c_nn b10_, c_nn b10_, c_nn b10_, c_nn b10_, c_nn b10_, c_nn b15_, c_T, c_no b18_, c_no b18_, c_no b18_, c_no b18_, c_no b18_, c_no b18_, c_no b18_, c_no b18_, c_T] [k_c f1_, k_c f6_, k_c f11_, k_c f16_] (by kernel_rfl)
  have h19_ := (if_neg b18_).symm.trans h17_
  have b20_ : r3 = true := by first | exact b18_ | simpa using b18_
  obtain ⟨r4, f21_, h22_⟩ := pullD_elim h19_
  replace f21_ := m_33_ok f21_
  by_cases b23_ : r4 = false
  · have h24_ := (if_pos b23_).symm.trans h22_
    obtain rfl := Option.some.inj h24_
    exact con_pc (op := true) (I := [31]) (sp := figErr_sp) 3000 (bF 15 (bT 1 (bF 8 (bT 1 [])))) [.one (.bool r0), .one (.bool r1), .one (.bool r2), .one (.bool r3), .one (.bool r4)] [c_nn b5_, c_nn b5_, c_nn b5_, c_nn b5_, c_nn b5_, c_nn b5_, c_nn b5_, c_nn b10_, c_nn b10_, c_nn b10_, c_nn b10_, c_nn b10_, c_nn b10_, c_nn b10_, c_nn b15_, c_T, c_nn b20_, c_nn b20_, c_nn b20_, c_nn b20_, c_nn b20_, c_nn b20_, c_nn b20_, c_nn b20_, c_no b23_] [k_c f1_, k_c f6_, k_c f11_, k_c f16_, k_c f21_] (by kernel_rfl)
  have h24_ := (if_neg b23_).symm.trans h22_
  have b25_ : r4 = true := by first | exact b23_ | simpa using b23_
  obtain ⟨r5, f26_, h27_⟩ := pullD_elim h24_
  replace f26_ := m_33_ok f26_
  by_cases b28_ : r5 = false
  · have h29_ := (if_pos b28_).symm.trans h27_
    obtain rfl := Option.some.inj h29_
    exact con_pc (op := true) (I := [31]) (sp := figErr_sp) 3000 (bF 15 (bT 1 (bF 9 (bT 10 [])))) [.one (.bool r0), .one (.bool r1), .one (.bool r2), .one (.bool r3), .one (.bool r4), .one (.bool r5)] [c_nn b5_, c_nn b5_, c_nn b5_, c_nn b5_, c_nn b5_, c_nn b5_, c_nn b5_, c_nn b10_, c_nn b10_, c_nn b10_, c_nn b10_, c_nn b10_, c_nn b10_, c_nn b10_, c_nn b15_, c_T, c_nn b20_, c_nn b20_, c_nn b20_, c_nn b20_, c_nn b20_, c_nn b20_, c_nn b20_, c_nn b20_, c_nn b25_, c_T, c_no b28_, c_no b28_, c_no b28_, c_no b28_, c_no b28_, c_no b28_, c_no b28_, c_no b28_, c_T] [k_c f1_, k_c f6_, k_c f11_, k_c f16_, k_c f21_, k_c f26_] (by kernel_rfl)
  have h29_ := (if_neg b28_).symm.trans h27_
  have b30_ : r5 = true := by first | exact b28_ | simpa using b28_
  obtain ⟨r6, f31_, h32_⟩ := pullD_elim h29_
  replace f31_ := m_33_ok f31_
  by_cases b33_ : r6 = false
  · have h34_ := (if_pos b33_).symm.trans h32_
    obtain rfl := Option.some.inj h34_
    exact con_pc (op := true) (I := [31]) (sp := figErr_sp) 3000 (bF 15 (bT 1 (bF 9 (bT 1 (bF 8 (bT 1 [])))))) [.one (.bool r0), .one (.bool r1), .one (.bool r2), .one (.bool r3), .one (.bool r4), .one (.bool r5), .one (.bool r6)] [c_nn b5_, c_nn b5_, c_nn b5_, c_nn b5_, c_nn b5_, c_nn b5_, c_nn b5_, c_nn b10_, c_nn b10_, c_nn b10_, c_nn b10_, c_nn b10_, c_nn b10_, c_nn b10_, c_nn b15_, c_T, c_nn b20_, c_nn b20_, c_nn b20_, c_nn b20_, c_nn b20_, c_nn b20_, c_nn b20_, c_nn b20_, c_nn b25_, c_T, c_nn b30_, c_nn b30_, c_nn b30_, c_nn b30_, c_nn b30_, c_nn b30_, c_nn b30_, c_nn b30_, c_no b33_] [k_c f1_, k_c f6_, k_c f11_, k_c f16_, k_c f21_, k_c f26_, k_c f31_] (by kernel_rfl)
  have h34_ := (if_neg b33_).symm.trans h32_
  have b35_ : r6 = true := by first | exact b33_ | simpa using b33_
  obtain ⟨r7, f36_, h37_⟩ := pullD_elim h34_
  replace f36_ := m_33_ok f36_
  by_cases b38_ : r7 = false
  · have h39_ := (if_pos b38_).symm.trans h37_
    obtain rfl := Option.some.inj h39_
    exact con_pc (op := true) (I := [31]) (sp := figErr_sp) 3000 (bF 15 (bT 1 (bF 9 (bT 1 (bF 9 (bT 10 [])))))) [.one (.bool r0), .one (.bool r1), .one (.bool r2), .one (.bool r3), .one (.bool r4), .one (.bool r5), .one (.bool r6), .one (.bool r7)] [c_nn b5_, c_nn b5_, c_nn b5_, c_nn b5_, c_nn b5_, c_nn b5_, c_nn b5_, c_nn b10_, c_nn b10_, c_nn b10_, c_nn b10_, c_nn b10_, c_nn b10_, c_nn b10_, c_nn b15_, c_T, c_nn b20_, c_nn b20_, c_nn b20_, c_nn b20_, c_nn b20_, c_nn b20_, c_nn b20_, c_nn b20_, c_nn b25_, c_T, c_nn b30_, c_nn b30_, c_nn b30_, c_nn b30_, c_nn b30_, c_nn b30_, c_nn b30_, c_nn b30_, c_nn b35_, c_T, c_no b38_, c_no b38_, c_no b38_, c_no b38_, c_no b38_, c_no b38_, c_no b38_, c_no b38_, c_T] [k_c f1_, k_c f6_, k_c f11_, k_c f16_, k_c f21_, k_c f26_, k_c f31_, k_c f36_] (by kernel_rfl)
  have h39_ := (if_neg b38_).symm.trans h37_
  have b40_ : r7 = true := by first | exact b38_ | simpa using b38_
  obtain ⟨r8, f41_, h42_⟩ := pullD_elim h39_
  replace f41_ := m_33_ok f41_
  by_cases b43_ : r8 = false
  · have h44_ := (if_pos b43_).symm.trans h42_
    obtain rfl := Option.some.inj h44_
    exact con_pc (op := true) (I := [31]) (sp := figErr_sp) 3000 (bF 15 (bT 1 (bF 9 (bT 1 (bF 9 (bT 1 (bF 8 (bT 1 [])))))))) [.one (.bool r0), .one (.bool r1), .one (.bool r2), .one (.bool r3), .one (.bool r4), .one (.bool r5), .one (.bool r6), .one (.bool r7), .one (.bool r8)] [c_nn b5_, c_nn b5_, c_nn b5_, c_nn b5_, c_nn b5_, c_nn b5_, c_nn b5_, c_nn b10_, c_nn b10_, c_nn b10_, c_nn b10_, c_nn b10_, c_nn b10_, c_nn b10_, c_nn b15_, c_T, c_nn b20_, c_nn b20_, c_nn b20_, c_nn b20_, c_nn b20_, c_nn b20_, c_nn b20_, c_nn b20_, c_nn b25_, c_T, c_nn b30_, c_nn b30_, c_nn b30_, c_nn b30_, c_nn b30_, c_nn b30_, c_nn b30_, c_nn b30_, c_nn b35_, c_T, c_nn b40_, c_nn b40_, c_nn b40_, c_nn b40_, c_nn b40_, c_nn b40_, c_nn b40_, c_nn b40_, c_no b43_] [k_c f1_, k_c f6_, k_c f11_, k_c f16_, k_c f21_, k_c f26_, k_c f31_, k_c f36_, k_c f41_] (by kernel_rfl)
  have h44_ := (if_neg b43_).symm.trans h42_
  have b45_ : r8 = true := by first | exact b43_ | simpa using b43_
  by_cases b46_ : pl > ph
  · have h47_ := (if_pos b46_).symm.trans h44_
    obtain rfl := Option.some.inj h47_
    exact con_pc (op := true) (I := [31]) (sp := figErr_sp) 3000 (bF 15 (bT 1 (bF 9 (bT 1 (bF 9 (bT 1 (bF 10 (bT 1 [])))))))) [.one (.bool r0), .one (.bool r1), .one (.bool r2), .one (.bool r3), .one (.bool r4), .one (.bool r5), .one (.bool r6), .one (.bool r7), .one (.bool r8)] [c_nn b5_, c_nn b5_, c_nn b5_, c_nn b5_, c_nn b5_, c_nn b5_, c_nn b5_, c_nn b10_, c_nn b10_, c_nn b10_, c_nn b10_, c_nn b10_, c_nn b10_, c_nn b10_, c_nn b15_, c_T, c_nn b20_, c_nn b20_, c_nn b20_, c_nn b20_, c_nn b20_, c_nn b20_, c_nn b20_, c_nn b20_, c_nn b25_, c_T, c_nn b30_, c_nn b30_, c_nn b30_, c_nn b30_, c_nn b30_, c_nn b30_, c_nn b30_, c_nn b30_, c_nn b35_, c_T, c_nn b40_, c_nn b40_, c_nn b40_, c_nn b40_, c_nn b40_, c_nn b40_, c_nn b40_, c_nn b40_, c_nn b45_, c_F, c_d b46_] [k_c f1_, k_c f6_, k_c f11_, k_c f16_, k_c f21_, k_c f26_, k_c f31_, k_c f36_, k_c f41_] (by kernel_rfl)
  have h47_ := (if_neg b46_).symm.trans h44_
  by_cases b48_ : tl > th
  · have h49_ := (if_pos b48_).symm.trans h47_
    obtain rfl := Option.some.inj h49_
    exact con_pc (op := true) (I := [31]) (sp := figErr_sp) 3000 (bF 15 (bT 1 (bF 9 (bT 1 (bF 9 (bT 1 (bF 11 (bT 2 [])))))))) [.one (.bool r0), .one (.bool r1), .one (.bool r2), .one (.bool r3), .one (.bool r4), .one (.bool r5), .one (.bool r6), .one (.bool r7), .one (.bool r8)] [c_nn b5_, c_nn b5_, c_nn b5_, c_nn b5_, c_nn b5_, c_nn b5_, c_nn b5_, c_nn b10_, c_nn b10_, c_nn b10_, c_nn b10_, c_nn b10_, c_nn b10_, c_nn b10_, c_nn b15_, c_T, c_nn b20_, c_nn b20_, c_nn b20_, c_nn b20_, c_nn b20_, c_nn b20_, c_nn b20_, c_nn b20_, c_nn b25_, c_T, c_nn b30_, c_nn b30_, c_nn b30_, c_nn b30_, c_nn b30_, c_nn b30_, c_nn b30_, c_nn b30_, c_nn b35_, c_T, c_nn b40_, c_nn b40_, c_nn b40_, c_nn b40_, c_nn b40_, c_nn b40_, c_nn b40_, c_nn b40_, c_nn b45_, c_F, c_n b46_, c_T, c_d b48_] [k_c f1_, k_c f6_, k_c f11_, k_c f16_, k_c f21_, k_c f26_, k_c f31_, k_c f36_, k_c f41_] (by kernel_rfl)
  have h49_ := (if_neg b48_).symm.trans h47_
  by_cases b50_ : nl > nh
  · have h51_ := (if_pos b50_).symm.trans h49_
    obtain rfl := Option.some.inj h51_
    exact con_pc (op := true) (I := [31]) (sp := figErr_sp) 3000 (bF 15 (bT 1 (bF 9 (bT 1 (bF 9 (bT 1 (bF 11 (bT 1 (bF 1 (bT 2 [])))))))))) [.one (.bool r0), .one (.bool r1), .one (.bool r2), .one (.bool r3), .one (.bool r4), .one (.bool r5), .one (.bool r6), .one (.bool r7), .one (.bool r8)] [c_nn b5_, c_nn b5_, c_nn b5_, c_nn b5_, c_nn b5_, c_nn b5_, c_nn b5_, c_nn b10_, c_nn b10_, c_nn b10_, c_nn b10_, c_nn b10_, c_nn b10_, c_nn b10_, c_nn b15_, c_T, c_nn b20_, c_nn b20_, c_nn b20_, c_nn b20_, c_nn b20_, c_nn b20_, c_nn b20_, c_nn b20_, c_nn b25_, c_T, c_nn b30_, c_nn b30_, c_nn b30_, c_nn b30_, c_nn b30_, c_nn b30_, c_nn b30_, c_nn b30_, c_nn b35_, c_T, c_nn b40_, c_nn b40_, c_nn b40_, c_nn b40_, c_nn b40_, c_nn b40_, c_nn b40_, c_nn b40_, c_nn b45_, c_F, c_n b46_, c_T, c_n b48_, c_T, c_d b50_] [k_c f1_, k_c f6_, k_c f11_, k_c f16_, k_c f21_, k_c f26_, k_c f31_, k_c f36_, k_c f41_] (by kernel_rfl)
  have h51_ := (if_neg b50_).symm.trans h49_
  by_cases b52_ : ul > uh
  · have h53_ := (if_pos b52_).symm.trans h51_
    obtain rfl := Option.some.inj h53_
    exact con_pc (op := true) (I := [31]) (sp := figErr_sp) 3000 (bF 15 (bT 1 (bF 9 (bT 1 (bF 9 (bT 1 (bF 11 (bT 1 (bF 1 (bT 1 (bF 1 (bT 2 [])))))))))))) [.one (.bool r0), .one (.bool r1), .one (.bool r2), .one (.bool r3), .one (.bool r4), .one (.bool r5), .one (.bool r6), .one (.bool r7), .one (.bool r8)] [c_nn b5_, c_nn b5_, c_nn b5_, c_nn b5_, c_nn b5_, c_nn b5_, c_nn b5_, c_nn b10_, c_nn b10_, c_nn b10_, c_nn b10_, c_nn b10_, c_nn b10_, c_nn b10_, c_nn b15_, c_T, c_nn b20_, c_nn b20_, c_nn b20_, c_nn b20_, c_nn b20_, c_nn b20_, c_nn b20_, c_nn b20_, c_nn b25_, c_T, c_nn b30_, c_nn b30_, c_nn b30_, c_nn b30_, c_nn b30_, c_nn b30_, c_nn b30_, c_nn b30_, c_nn b35_, c_T, c_nn b40_, c_nn b40_, c_nn b40_, c_nn b40_, c_nn b40_, c_nn b40_, c_nn b40_, c_nn b40_, c_nn b45_, c_F, c_n b46_, c_T, c_n b48_, c_T, c_n b50_, c_T, c_d b52_] [k_c f1_, k_c f6_, k_c f11_, k_c f16_, k_c f21_, k_c f26_, k_c f31_, k_c f36_, k_c f41_] (by kernel_rfl)
  have h53_ := (if_neg b52_).symm.trans h51_
  obtain rfl := Option.some.inj h53_
  exact con_pc (op := true) (I := [31]) (sp := figErr_sp) 3000 (bF 15 (bT 1 (bF 9 (bT 1 (bF 9 (bT 1 (bF 11 (bT 1 (bF 1 (bT 1 (bF 1 (bT 1 (bF 2 []))))))))))))) [.one (.bool r0), .one (.bool r1), .one (.bool r2), .one (.bool r3), .one (.bool r4), .one (.bool r5), .one (.bool r6), .one (.bool r7), .one (.bool r8)] [c_nn b5_, c_nn b5_, c_nn b5_, c_nn b5_, c_nn b5_, c_nn b5_, c_nn b5_, c_nn b10_, c_nn b10_, c_nn b10_, c_nn b10_, c_nn b10_, c_nn b10_, c_nn b10_, c_nn b15_, c_T, c_nn b20_, c_nn b20_, c_nn b20_, c_nn b20_, c_nn b20_, c_nn b20_, c_nn b20_, c_nn b20_, c_nn b25_, c_T, c_nn b30_, c_nn b30_, c_nn b30_, c_nn b30_, c_nn b30_, c_nn b30_, c_nn b30_, c_nn b30_, c_nn b35_, c_T, c_nn b40_, c_nn b40_, c_nn b40_, c_nn b40_, c_nn b40_, c_nn b40_, c_nn b40_, c_nn b40_, c_nn b45_, c_F, c_n b46_, c_T, c_n b48_, c_T, c_n b50_, c_T, c_n b52_, c_F] [k_c f1_, k_c f6_, k_c f11_, k_c f16_, k_c f21_, k_c f26_, k_c f31_, k_c f36_, k_c f41_] (by kernel_rfl)
def m_31 (ds : List D) : Option D := pullD (α := Int × Int × Int × Int × Int × Int × Int × Int × Int) (some (.tup ds)) (fun d => ((D.vi (D.at (D.at d 0) 0)), (D.vi (D.at (D.at d 0) 1)), (D.vi (D.at (D.at d 0) 2)), (D.vi (D.at (D.at d 0) 3)), (D.vi (D.at (D.at d 0) 4)), (D.vi (D.at (D.at d 0) 5)), (D.vi (D.at (D.at d 0) 6)), (D.vi (D.at (D.at d 0) 7)), (D.vi (D.at (D.at d 0) 8)))) (fun (ga, pl, ph, tl, th, nl, nh, ul, uh) => .tup [(shNL5_0 ga pl ph tl th nl nh ul uh)]) fun (ga, pl, ph, tl, th, nl, nh, ul, uh) => figErr_M ga pl ph tl th nl nh ul uh
theorem m_31_ok {ds : List D} {r : D} (h : m_31 ds = some r) : Con 31 ds r := by
  unfold m_31 at h
  obtain ⟨⟨ga, pl, ph, tl, th, nl, nh, ul, uh⟩, e0, h0⟩ := pullD_elim h
  obtain rfl := tup_inj e0
  exact figErr_M_ok ga pl ph tl th nl nh ul uh h0
theorem m_31_eq (ga pl ph tl th nl nh ul uh : Int) : m_31 [(shNL5_0 ga pl ph tl th nl nh ul uh)] = figErr_M ga pl ph tl th nl nh ul uh := pullD_some (ga, pl, ph, tl, th, nl, nh, ul, uh) rfl rfl
end
end Go.Proofs.Ytmohaohdbklkeaa
namespace Go.Proofs.Ytmohaohdbklkeaa
open Go.Ev Go.RowKit
set_option maxRecDepth 100000
set_option maxHeartbeats 8000000
set_option linter.all false
noncomputable section
abbrev shNL6_0 (a0 : Int) (a1 : Int) (a2 : Int) (a3 : Int) (a4 : Int) (a5 : Int) (a6 : Int) (a7 : Int) (a8 : Int) : D := .agg [.one (.int .i64 a0), .one (.int .i64 a1), .one (.int .i64 a2), .one (.int .i64 a3), .one (.int .i64 a4), .one (.int .i64 a5), .one (.int .i64 a6), .one (.int .i64 a7), .one (.int .i64 a8)]
def shNL6_0P (d : D) : Int × Int × Int × Int × Int × Int × Int × Int × Int := (D.vi (D.at d 0), D.vi (D.at d 1), D.vi (D.at d 2), D.vi (D.at d 3), D.vi (D.at d 4), D.vi (D.at d 5), D.vi (D.at d 6), D.vi (D.at d 7), D.vi (D.at d 8))
def law6_x12_0 : LExit := ⟨some 0, [.grow 9 1], (10 :: (List.range' 73 28))⟩
def law6_x12_1 : LExit := ⟨some 0, [.nil 9], (10 :: (List.range' 73 28))⟩
def law6_x17_0 : LExit := ⟨some 2, [.val 11], (12 :: (List.range' 104 12))⟩
def law6_x22_0 : LExit := ⟨some 4, [.val 13, .val 14, .val 15], (16 :: (List.range' 119 36))⟩
def law6_sp : List LSpec := [⟨6, 12, [law6_x12_0, law6_x12_1]⟩, ⟨6, 17, [law6_x17_0]⟩, ⟨6, 22, [law6_x22_0]⟩]
def law6_L22_E (re fa fb fc fd : Int) (k : Nat) (c : List D) (st : Int) (kb : Nat) (cb : List D) (kd : Nat) (cd : List D) (x0 : Bool) (x1 : Bool) (x2 : Int) (x3 : Int) (x4 : Int) (x5 : Int) (x6 : Int) (x7 : Int) (x8 : Nat) (x9 : List D) (x10 : Int) (x11 : Nat) (x12 : List D) (x13 : Int) (x14 : Int) (x15 : Int) (x16 : Int) (x17 : Int) (x18 : Int) (x19 : Int) (x20 : Int) (x21 : Int) (x22 : Int) (x23 : Int) (x24 : Nat) (x25 : List D) (x26 : Int) (x27 : Int) : List AV × AHeap := ([.agg [.pure (.int .i64 re), .pure (.int .i64 fa), .pure (.int .i64 fb), .pure (.int .i64 fc), .pure (.int .i64 fd), .dsl 0], .agg [.pure (.int .i64 st), .dsl 1], .dsl 2, .ptr 3 0, .ptr 4 0, .pure (.tuple #[]), .pure (.bool false), .ptr 7 0, .pure (.int .i64 x22), .bslx 8 0 x24 0, .any 9, .pure (.int .i64 x27), .any 38, .pure (.int .i64 (-1 : Int)), .pure (.int .i64 (-1 : Int)), .pure (.int .i64 (-1 : Int)), .pure (.int .i64 (IntKind.i64.wrap ((x24 : Int) - (1 : Int)))), .pure (.bool x0), .pure (.bool !x0), .agg [.pure (.int .i64 re), .pure (.int .i64 fa), .pure (.int .i64 fb), .pure (.int .i64 fc), .pure (.int .i64 fd), .dsl 0], .pure (.bool x1), .pure (.bool !x1), .pure (.bool !x1), .agg [.pure (.int .i64 re), .pure (.int .i64 fa), .pure (.int .i64 fb), .pure (.int .i64 fc), .pure (.int .i64 fd), .dsl 0], .agg [.pure (.int .i64 st), .dsl 1], .pure (.int .i64 x2), .pure (.bool (x2 != (0 : Int))), .pure (.bool (x2 != (0 : Int))), .pure (.bool (x2 != (0 : Int))), .dsl 2, .pure (.int .i64 (kd : Int)), .ptr 4 1, .dsl 1, .pure (.int .i64 (kb : Int)), .pure (.bool (decide ((kd : Int) < (kb : Int)))), .pure (.bool (decide ((kd : Int) < (kb : Int)))), .pure (.bool (decide ((kd : Int) < (kb : Int)))), .dsl 2, .pure (.int .i64 (kd : Int)), .pure (.bool (decide ((kd : Int) > (70 : Int)))), .pure (.bool (decide ((kd : Int) > (70 : Int)))), .pure (.tuple #[.agg #[.int .i64 x13, .int .i64 x14, .int .i64 x15, .int .i64 x16, .int .i64 x17, .int .i64 x18, .int .i64 x19, .int .i64 x20, .int .i64 x21], .int .i64 x22]), .agg [.pure (.int .i64 re), .pure (.int .i64 fa), .pure (.int .i64 fb), .pure (.int .i64 fc), .pure (.int .i64 fd), .dsl 0], .agg [.pure (.int .i64 x3), .pure (.int .i64 x4), .pure (.int .i64 x5), .pure (.int .i64 x6), .pure (.int .i64 x7), .dsl 5], .agg [.pure (.int .i64 st), .dsl 1], .agg [.pure (.int .i64 x10), .dsl 6], .pure (.tuple #[.agg #[.int .i64 x13, .int .i64 x14, .int .i64 x15, .int .i64 x16, .int .i64 x17, .int .i64 x18, .int .i64 x19, .int .i64 x20, .int .i64 x21], .int .i64 x22]), .pure (.agg #[.int .i64 x13, .int .i64 x14, .int .i64 x15, .int .i64 x16, .int .i64 x17, .int .i64 x18, .int .i64 x19, .int .i64 x20, .int .i64 x21]), .pure (.int .i64 x22), .pure (.int .i64 x22), .pure (.bool (x22 != (0 : Int))), .pure (.tuple #[]), .pure (.tuple #[]), .pure (.tuple #[]), .pure (.tuple #[]), .pure (.tuple #[]), .pure (.tuple #[]), .pure (.tuple #[]), .pure (.tuple #[]), .pure (.tuple #[]), .pure (.tuple #[]), .pure (.tuple #[]), .pure (.agg #[.int .i64 x13, .int .i64 x14, .int .i64 x15, .int .i64 x16, .int .i64 x17, .int .i64 x18, .int .i64 x19, .int .i64 x20, .int .i64 x21]), .pure (.int .i64 x23), .pure (.bool (x23 != (0 : Int))), .pure (.bool (x23 != (0 : Int))), .ptr 7 0, .pure (.int .i64 x13), .ptr 4 1, .dsl 1, .pure (.int .i64 (kb : Int)), .pure (.bool (decide (x13 ≥ (kb : Int)))), .pure (.bool (decide (x13 ≥ (kb : Int)))), .any 10, .any 11, .any 12, .any 13, .any 14, .any 15, .any 16, .any 17, .any 18, .any 19, .any 20, .any 21, .any 22, .any 23, .any 24, .any 25, .any 26, .any 27, .any 28, .any 29, .any 30, .any 31, .any 32, .any 33, .any 34, .any 35, .any 36, .any 37, .bslx 8 0 x24 0, .bptr 8 0, .pure (.int .i64 x26), .any 39, .any 40, .any 41, .any 42, .any 43, .any 44, .any 45, .any 46, .any 47, .any 48, .any 49, .any 50, .bslx 8 0 x24 0, .pure (.int .i64 (x24 : Int)), .pure (.int .i64 (IntKind.i64.wrap ((x24 : Int) - (1 : Int)))), .pure (.tuple #[]), .pure (.tuple #[]), .pure (.tuple #[]), .pure (.tuple #[]), .pure (.tuple #[]), .pure (.tuple #[]), .pure (.tuple #[]), .pure (.tuple #[]), .pure (.tuple #[]), .pure (.tuple #[]), .pure (.tuple #[]), .pure (.tuple #[]), .pure (.tuple #[]), .pure (.tuple #[]), .pure (.tuple #[]), .pure (.tuple #[]), .pure (.tuple #[]), .pure (.tuple #[]), .pure (.tuple #[]), .pure (.tuple #[]), .pure (.tuple #[]), .pure (.tuple #[]), .pure (.tuple #[]), .pure (.tuple #[]), .pure (.tuple #[]), .pure (.tuple #[]), .pure (.tuple #[]), .pure (.tuple #[]), .pure (.tuple #[]), .pure (.tuple #[]), .pure (.tuple #[]), .pure (.tuple #[]), .pure (.tuple #[]), .pure (.tuple #[]), .pure (.tuple #[]), .pure (.tuple #[]), .pure (.tuple #[]), .pure (.tuple #[]), .pure (.tuple #[]), .pure (.tuple #[]), .pure (.tuple #[]), .pure (.tuple #[]), .pure (.tuple #[]), .pure (.tuple #[]), .pure (.tuple #[]), .pure (.tuple #[]), .pure (.tuple #[]), .pure (.tuple #[]), .pure (.tuple #[]), .pure (.tuple #[]), .pure (.tuple #[]), .pure (.tuple #[]), .pure (.tuple #[]), .pure (.tuple #[]), .pure (.tuple #[]), .pure (.tuple #[]), .pure (.tuple #[]), .pure (.tuple #[]), .pure (.tuple #[]), .pure (.tuple #[]), .pure (.tuple #[]), .pure (.tuple #[]), .pure (.tuple #[]), .pure (.tuple #[]), .pure (.tuple #[]), .pure (.tuple #[]), .pure (.tuple #[]), .pure (.tuple #[]), .pure (.tuple #[]), .pure (.tuple #[]), .pure (.tuple #[]), .pure (.tuple #[]), .pure (.tuple #[]), .pure (.tuple #[])], [(8, { cells := [], opn := some 1, kind := .big x25 }), (5, { cells := [], opn := none, kind := .deep x8 x9 }), (6, { cells := [], opn := none, kind := .deep x11 x12 }), (7, { cells := [.pure (.int .i64 x13), .pure (.int .i64 x14), .pure (.int .i64 x15), .pure (.int .i64 x16), .pure (.int .i64 x17), .pure (.int .i64 x18), .pure (.int .i64 x19), .pure (.int .i64 x20), .pure (.int .i64 x21)], opn := none, kind := .cells }), (4, { cells := [.pure (.int .i64 st), .dsl 1], opn := none, kind := .cells }), (3, { cells := [.pure (.int .i64 re), .pure (.int .i64 fa), .pure (.int .i64 fb), .pure (.int .i64 fc), .pure (.int .i64 fd), .dsl 0], opn := none, kind := .cells }), (2, { cells := [], opn := none, kind := .deep kd cd }), (1, { cells := [], opn := none, kind := .deep kb cb }), (0, { cells := [], opn := none, kind := .deep k c })])
def law6_L22_A : LoopAt := ⟨6, loopAt Try.prog 6 2, 52, 92, 52, noFrame⟩
theorem law6_L22_ok : (law6_L22_A).OK := ⟨by show 52 ≤ 92; decide, by show 52 ≤ 52; decide, by kernel_rfl, rfl⟩
def law6_L22_gs (re fa fb fc fd : Int) (k : Nat) (c : List D) (st : Int) (kb : Nat) (cb : List D) (kd : Nat) (cd : List D) (x0 : Bool) (x1 : Bool) (x2 : Int) (x3 : Int) (x4 : Int) (x5 : Int) (x6 : Int) (x7 : Int) (x8 : Nat) (x9 : List D) (x10 : Int) (x11 : Nat) (x12 : List D) (x13 : Int) (x14 : Int) (x15 : Int) (x16 : Int) (x17 : Int) (x18 : Int) (x19 : Int) (x20 : Int) (x21 : Int) (x22 : Int) (x23 : Int) (x24 : Nat) (x25 : List D) (x26 : Int) (x27 : Int) : Go.Ev.Rd → Option GS
  | .next 0 ds => ghost [.val 13, .val 14, .val 15, .val 16] (List.range' 119 36) (law6_L22_E re fa fb fc fd k c st kb cb kd cd x0 x1 x2 x3 x4 x5 x6 x7 x8 x9 x10 x11 x12 x13 x14 x15 x16 x17 x18 x19 x20 x21 x22 x23 x24 x25 x26 x27).1 (law6_L22_E re fa fb fc fd k c st kb cb kd cd x0 x1 x2 x3 x4 x5 x6 x7 x8 x9 x10 x11 x12 x13 x14 x15 x16 x17 x18 x19 x20 x21 x22 x23 x24 x25 x26 x27).2 52 ds
  | .out 0 ds => ghost law6_x22_0.live law6_x22_0.junk (law6_L22_E re fa fb fc fd k c st kb cb kd cd x0 x1 x2 x3 x4 x5 x6 x7 x8 x9 x10 x11 x12 x13 x14 x15 x16 x17 x18 x19 x20 x21 x22 x23 x24 x25 x26 x27).1 (law6_L22_E re fa fb fc fd k c st kb cb kd cd x0 x1 x2 x3 x4 x5 x6 x7 x8 x9 x10 x11 x12 x13 x14 x15 x16 x17 x18 x19 x20 x21 x22 x23 x24 x25 x26 x27).2 52 ds
  | _ => none
def law6_L22_ex : Nat → Option Nat
  | 0 => law6_x22_0.ex
  | _ => none
def law6_L22_ax : Go.Ev.Rd → AX
  | .next _ _ => .normal
  | .out j _ => axOf (law6_L22_ex j)
def law6_L22_S0 (re fa fb fc fd : Int) (k : Nat) (c : List D) (st : Int) (kb : Nat) (cb : List D) (kd : Nat) (cd : List D) (x0 : Bool) (x1 : Bool) (x2 : Int) (x3 : Int) (x4 : Int) (x5 : Int) (x6 : Int) (x7 : Int) (x8 : Nat) (x9 : List D) (x10 : Int) (x11 : Nat) (x12 : List D) (x13 : Int) (x14 : Int) (x15 : Int) (x16 : Int) (x17 : Int) (x18 : Int) (x19 : Int) (x20 : Int) (x21 : Int) (x22 : Int) (x23 : Int) (x24 : Nat) (x25 : List D) (x26 : Int) (x27 : Int) (ds : List D) : Option Go.Ev.Rd := pullD (α := Int × Int × Int × Int) (some (.tup ds)) (fun d => ((D.vi (D.at d 0)), (D.vi (D.at d 1)), (D.vi (D.at d 2)), (D.vi (D.at d 3)))) (fun (s13, s14, s15, s16) => .tup [iD s13, iD s14, iD s15, iD s16]) fun (s13, s14, s15, s16) => ((if s16 ≥ (0 : Int) then guardP ((0 : Int) ≤ s16 ∧ s16.toNat < x24) (pullD (α := Int) (readD x25 (0 + s16.toNat * 1) 1 false) (fun d => ((D.vi d))) (fun v0 => iD v0) fun v0 => ((if IntKind.i64.wrap ((10 : Int) * v0) ≥ IntKind.i64.wrap ((3 : Int) * x27) then pullD (α := Int) (readD x25 (0 + s16.toNat * 1) 1 false) (fun d => ((D.vi d))) (fun v1 => iD v1) fun v1 => ((if IntKind.i64.wrap ((10 : Int) * v1) ≥ IntKind.i64.wrap ((9 : Int) * x27) then (if s16 > x13 then pullD (α := Int) (readD x25 (0 + s16.toNat * 1) 1 false) (fun d => ((D.vi d))) (fun v2 => iD v2) fun v2 => ((if IntKind.i64.wrap ((2 : Int) * v2) ≤ x27 then some (.next 0 [iD s16, iD s16, iD s16, iD (IntKind.i64.wrap (s16 - (1 : Int)))]) else some (.next 0 [iD s16, iD s16, iD s15, iD (IntKind.i64.wrap (s16 - (1 : Int)))]))) else some (.next 0 [iD s16, iD s16, iD s15, iD (IntKind.i64.wrap (s16 - (1 : Int)))])) else (if s16 > x13 then pullD (α := Int) (readD x25 (0 + s16.toNat * 1) 1 false) (fun d => ((D.vi d))) (fun v3 => iD v3) fun v3 => ((if IntKind.i64.wrap ((2 : Int) * v3) ≤ x27 then some (.next 0 [iD s16, iD s14, iD s16, iD (IntKind.i64.wrap (s16 - (1 : Int)))]) else some (.next 0 [iD s16, iD s14, iD s15, iD (IntKind.i64.wrap (s16 - (1 : Int)))]))) else some (.next 0 [iD s16, iD s14, iD s15, iD (IntKind.i64.wrap (s16 - (1 : Int)))])))) else pullD (α := Int) (readD x25 (0 + s16.toNat * 1) 1 false) (fun d => ((D.vi d))) (fun v4 => iD v4) fun v4 => ((if IntKind.i64.wrap ((10 : Int) * v4) ≥ IntKind.i64.wrap ((9 : Int) * x27) then (if s16 > x13 then pullD (α := Int) (readD x25 (0 + s16.toNat * 1) 1 false) (fun d => ((D.vi d))) (fun v5 => iD v5) fun v5 => ((if IntKind.i64.wrap ((2 : Int) * v5) ≤ x27 then some (.next 0 [iD s13, iD s16, iD s16, iD (IntKind.i64.wrap (s16 - (1 : Int)))]) else some (.next 0 [iD s13, iD s16, iD s15, iD (IntKind.i64.wrap (s16 - (1 : Int)))]))) else some (.next 0 [iD s13, iD s16, iD s15, iD (IntKind.i64.wrap (s16 - (1 : Int)))])) else (if s16 > x13 then pullD (α := Int) (readD x25 (0 + s16.toNat * 1) 1 false) (fun d => ((D.vi d))) (fun v6 => iD v6) fun v6 => ((if IntKind.i64.wrap ((2 : Int) * v6) ≤ x27 then some (.next 0 [iD s13, iD s14, iD s16, iD (IntKind.i64.wrap (s16 - (1 : Int)))]) else some (.next 0 [iD s13, iD s14, iD s15, iD (IntKind.i64.wrap (s16 - (1 : Int)))]))) else some (.next 0 [iD s13, iD s14, iD s15, iD (IntKind.i64.wrap (s16 - (1 : Int)))]))))))) else some (.out 0 [iD s13, iD s14, iD s15])))
def law6_L22_S (re fa fb fc fd : Int) (k : Nat) (c : List D) (st : Int) (kb : Nat) (cb : List D) (kd : Nat) (cd : List D) (x0 : Bool) (x1 : Bool) (x2 : Int) (x3 : Int) (x4 : Int) (x5 : Int) (x6 : Int) (x7 : Int) (x8 : Nat) (x9 : List D) (x10 : Int) (x11 : Nat) (x12 : List D) (x13 : Int) (x14 : Int) (x15 : Int) (x16 : Int) (x17 : Int) (x18 : Int) (x19 : Int) (x20 : Int) (x21 : Int) (x22 : Int) (x23 : Int) (x24 : Nat) (x25 : List D) (x26 : Int) (x27 : Int) : Go.Ev.Rd → Option Go.Ev.Rd
  | .next 0 ds => law6_L22_S0 re fa fb fc fd k c st kb cb kd cd x0 x1 x2 x3 x4 x5 x6 x7 x8 x9 x10 x11 x12 x13 x14 x15 x16 x17 x18 x19 x20 x21 x22 x23 x24 x25 x26 x27 ds
  | _ => none
theorem law6_L22_S_0 (re fa fb fc fd : Int) (k : Nat) (c : List D) (st : Int) (kb : Nat) (cb : List D) (kd : Nat) (cd : List D) (x0 : Bool) (x1 : Bool) (x2 : Int) (x3 : Int) (x4 : Int) (x5 : Int) (x6 : Int) (x7 : Int) (x8 : Nat) (x9 : List D) (x10 : Int) (x11 : Nat) (x12 : List D) (x13 : Int) (x14 : Int) (x15 : Int) (x16 : Int) (x17 : Int) (x18 : Int) (x19 : Int) (x20 : Int) (x21 : Int) (x22 : Int) (x23 : Int) (x24 : Nat) (x25 : List D) (x26 : Int) (x27 : Int) (ds : List D) : law6_L22_S re fa fb fc fd k c st kb cb kd cd x0 x1 x2 x3 x4 x5 x6 x7 x8 x9 x10 x11 x12 x13 x14 x15 x16 x17 x18 x19 x20 x21 x22 x23 x24 x25 x26 x27 (.next 0 ds) = law6_L22_S0 re fa fb fc fd k c st kb cb kd cd x0 x1 x2 x3 x4 x5 x6 x7 x8 x9 x10 x11 x12 x13 x14 x15 x16 x17 x18 x19 x20 x21 x22 x23 x24 x25 x26 x27 ds := rfl
theorem law6_L22_S_ok (re fa fb fc fd : Int) (k : Nat) (c : List D) (st : Int) (kb : Nat) (cb : List D) (kd : Nat) (cd : List D) (x0 : Bool) (x1 : Bool) (x2 : Int) (x3 : Int) (x4 : Int) (x5 : Int) (x6 : Int) (x7 : Int) (x8 : Nat) (x9 : List D) (x10 : Int) (x11 : Nat) (x12 : List D) (x13 : Int) (x14 : Int) (x15 : Int) (x16 : Int) (x17 : Int) (x18 : Int) (x19 : Int) (x20 : Int) (x21 : Int) (x22 : Int) (x23 : Int) (x24 : Nat) (x25 : List D) (x26 : Int) (x27 : Int) : ∀ s_ t_, law6_L22_S re fa fb fc fd k c st kb cb kd cd x0 x1 x2 x3 x4 x5 x6 x7 x8 x9 x10 x11 x12 x13 x14 x15 x16 x17 x18 x19 x20 x21 x22 x23 x24 x25 x26 x27 s_ = some t_ → Step (ctx [6] law6_sp) Tabs law6_L22_A (stateOf (law6_L22_gs re fa fb fc fd k c st kb cb kd cd x0 x1 x2 x3 x4 x5 x6 x7 x8 x9 x10 x11 x12 x13 x14 x15 x16 x17 x18 x19 x20 x21 x22 x23 x24 x25 x26 x27 s_)) (stateOf (law6_L22_gs re fa fb fc fd k c st kb cb kd cd x0 x1 x2 x3 x4 x5 x6 x7 x8 x9 x10 x11 x12 x13 x14 x15 x16 x17 x18 x19 x20 x21 x22 x23 x24 x25 x26 x27 t_)) (law6_L22_ax t_) ∧ EndOK law6_L22_A.nx law6_L22_A.low (law6_L22_gs re fa fb fc fd k c st kb cb kd cd x0 x1 x2 x3 x4 x5 x6 x7 x8 x9 x10 x11 x12 x13 x14 x15 x16 x17 x18 x19 x20 x21 x22 x23 x24 x25 x26 x27) t_
  | .next 0 ds, t_, h => by
    have h_ : law6_L22_S0 re fa fb fc fd k c st kb cb kd cd x0 x1 x2 x3 x4 x5 x6 x7 x8 x9 x10 x11 x12 x13 x14 x15 x16 x17 x18 x19 x20 x21 x22 x23 x24 x25 x26 x27 ds = some t_ := h
    clear h
    unfold law6_L22_S0 at h_
    obtain ⟨⟨s13, s14, s15, s16⟩, e0, h0⟩ := pullD_elim h_
    clear h_
    obtain rfl := tup_inj e0
    by_cases b1_ : s16 ≥ (0 : Int)
    · have h2_ := (if_pos b1_).symm.trans h0
      obtain ⟨f3_, h4_⟩ := guardP_elim h2_
      obtain ⟨v0, f5_, h6_⟩ := pullD_elim h4_
      replace f5_ := readD_elim f5_
      by_cases b7_ : IntKind.i64.wrap ((10 : Int) * v0) ≥ IntKind.i64.wrap ((3 : Int) * x27)
      · have h8_ := (if_pos b7_).symm.trans h6_
        obtain ⟨v1, f9_, h10_⟩ := pullD_elim h8_
        replace f9_ := readD_elim f9_
        by_cases b11_ : IntKind.i64.wrap ((10 : Int) * v1) ≥ IntKind.i64.wrap ((9 : Int) * x27)
        · have h12_ := (if_pos b11_).symm.trans h10_
          by_cases b13_ : s16 > x13
          · have h14_ := (if_pos b13_).symm.trans h12_
            obtain ⟨v2, f15_, h16_⟩ := pullD_elim h14_
            replace f15_ := readD_elim f15_
            by_cases b17_ : IntKind.i64.wrap ((2 : Int) * v2) ≤ x27
            · have h18_ := (if_pos b17_).symm.trans h16_
              obtain rfl := Option.some.inj h18_
              exact ⟨step_pc 3000 (bT 12 []) [iD v0, iD v1, iD v2] [c_d b1_, c_f f3_, c_f f5_, c_d b7_, c_f f3_, c_f f9_, c_d b11_, c_d b13_, c_d b13_, c_d b13_, c_f f3_, c_d b13_, c_f f15_, c_d b13_, c_d b13_, c_d b13_, c_d b13_, c_d b17_] [] _ rfl (by kernel_rfl) (by kernel_rfl) (by kernel_rfl) (by kernel_rfl) (by kernel_rfl) (by kernel_rfl), trivial⟩
            have h18_ := (if_neg b17_).symm.trans h16_
            obtain rfl := Option.some.inj h18_
            exact ⟨step_pc 3000 (bT 11 (bF 1 [])) [iD v0, iD v1, iD v2] [c_d b1_, c_f f3_, c_f f5_, c_d b7_, c_f f3_, c_f f9_, c_d b11_, c_d b13_, c_d b13_, c_d b13_, c_f f3_, c_d b13_, c_f f15_, c_d b13_, c_d b13_, c_d b13_, c_d b13_, c_n b17_] [] _ rfl (by kernel_rfl) (by kernel_rfl) (by kernel_rfl) (by kernel_rfl) (by kernel_rfl) (by kernel_rfl), trivial⟩
          have h14_ := (if_neg b13_).symm.trans h12_
          obtain rfl := Option.some.inj h14_
          exact ⟨step_pc 3000 (bT 3 (bF 9 [])) [iD v0, iD v1] [c_d b1_, c_f f3_, c_f f5_, c_d b7_, c_f f3_, c_f f9_, c_d b11_, c_n b13_, c_n b13_, c_n b13_, c_n b13_, c_n b13_, c_n b13_, c_n b13_, c_n b13_, c_F] [] _ rfl (by kernel_rfl) (by kernel_rfl) (by kernel_rfl) (by kernel_rfl) (by kernel_rfl) (by kernel_rfl), trivial⟩
        have h12_ := (if_neg b11_).symm.trans h10_
        by_cases b19_ : s16 > x13
        · have h20_ := (if_pos b19_).symm.trans h12_
          obtain ⟨v3, f21_, h22_⟩ := pullD_elim h20_
          replace f21_ := readD_elim f21_
          by_cases b23_ : IntKind.i64.wrap ((2 : Int) * v3) ≤ x27
          · have h24_ := (if_pos b23_).symm.trans h22_
            obtain rfl := Option.some.inj h24_
            exact ⟨step_pc 3000 (bT 2 (bF 1 (bT 9 []))) [iD v0, iD v1, iD v3] [c_d b1_, c_f f3_, c_f f5_, c_d b7_, c_f f3_, c_f f9_, c_n b11_, c_d b19_, c_d b19_, c_d b19_, c_f f3_, c_d b19_, c_f f21_, c_d b19_, c_d b19_, c_d b19_, c_d b19_, c_d b23_] [] _ rfl (by kernel_rfl) (by kernel_rfl) (by kernel_rfl) (by kernel_rfl) (by kernel_rfl) (by kernel_rfl), trivial⟩
          have h24_ := (if_neg b23_).symm.trans h22_
          obtain rfl := Option.some.inj h24_
          exact ⟨step_pc 3000 (bT 2 (bF 1 (bT 8 (bF 1 [])))) [iD v0, iD v1, iD v3] [c_d b1_, c_f f3_, c_f f5_, c_d b7_, c_f f3_, c_f f9_, c_n b11_, c_d b19_, c_d b19_, c_d b19_, c_f f3_, c_d b19_, c_f f21_, c_d b19_, c_d b19_, c_d b19_, c_d b19_, c_n b23_] [] _ rfl (by kernel_rfl) (by kernel_rfl) (by kernel_rfl) (by kernel_rfl) (by kernel_rfl) (by kernel_rfl), trivial⟩
        have h20_ := (if_neg b19_).symm.trans h12_
        obtain rfl := Option.some.inj h20_
        exact ⟨step_pc 3000 (bT 2 (bF 10 [])) [iD v0, iD v1] [c_d b1_, c_f f3_, c_f f5_, c_d b7_, c_f f3_, c_f f9_, c_n b11_, c_n b19_, c_n b19_, c_n b19_, c_n b19_, c_n b19_, c_n b19_, c_n b19_, c_n b19_, c_F] [] _ rfl (by kernel_rfl) (by kernel_rfl) (by kernel_rfl) (by kernel_rfl) (by kernel_rfl) (by kernel_rfl), trivial⟩
      have h8_ := (if_neg b7_).symm.trans h6_
      obtain ⟨v4, f25_, h26_⟩ := pullD_elim h8_
      replace f25_ := readD_elim f25_
      by_cases b27_ : IntKind.i64.wrap ((10 : Int) * v4) ≥ IntKind.i64.wrap ((9 : Int) * x27)
      · have h28_ := (if_pos b27_).symm.trans h26_
        by_cases b29_ : s16 > x13
        · have h30_ := (if_pos b29_).symm.trans h28_
          obtain ⟨v5, f31_, h32_⟩ := pullD_elim h30_
          replace f31_ := readD_elim f31_
          by_cases b33_ : IntKind.i64.wrap ((2 : Int) * v5) ≤ x27
          · have h34_ := (if_pos b33_).symm.trans h32_
            obtain rfl := Option.some.inj h34_
            exact ⟨step_pc 3000 (bT 1 (bF 1 (bT 10 []))) [iD v0, iD v4, iD v5] [c_d b1_, c_f f3_, c_f f5_, c_n b7_, c_f f3_, c_f f25_, c_d b27_, c_d b29_, c_d b29_, c_d b29_, c_f f3_, c_d b29_, c_f f31_, c_d b29_, c_d b29_, c_d b29_, c_d b29_, c_d b33_] [] _ rfl (by kernel_rfl) (by kernel_rfl) (by kernel_rfl) (by kernel_rfl) (by kernel_rfl) (by kernel_rfl), trivial⟩
          have h34_ := (if_neg b33_).symm.trans h32_
          obtain rfl := Option.some.inj h34_
          exact ⟨step_pc 3000 (bT 1 (bF 1 (bT 9 (bF 1 [])))) [iD v0, iD v4, iD v5] [c_d b1_, c_f f3_, c_f f5_, c_n b7_, c_f f3_, c_f f25_, c_d b27_, c_d b29_, c_d b29_, c_d b29_, c_f f3_, c_d b29_, c_f f31_, c_d b29_, c_d b29_, c_d b29_, c_d b29_, c_n b33_] [] _ rfl (by kernel_rfl) (by kernel_rfl) (by kernel_rfl) (by kernel_rfl) (by kernel_rfl) (by kernel_rfl), trivial⟩
        have h30_ := (if_neg b29_).symm.trans h28_
        obtain rfl := Option.some.inj h30_
        exact ⟨step_pc 3000 (bT 1 (bF 1 (bT 1 (bF 9 [])))) [iD v0, iD v4] [c_d b1_, c_f f3_, c_f f5_, c_n b7_, c_f f3_, c_f f25_, c_d b27_, c_n b29_, c_n b29_, c_n b29_, c_n b29_, c_n b29_, c_n b29_, c_n b29_, c_n b29_, c_F] [] _ rfl (by kernel_rfl) (by kernel_rfl) (by kernel_rfl) (by kernel_rfl) (by kernel_rfl) (by kernel_rfl), trivial⟩
      have h28_ := (if_neg b27_).symm.trans h26_
      by_cases b35_ : s16 > x13
      · have h36_ := (if_pos b35_).symm.trans h28_
        obtain ⟨v6, f37_, h38_⟩ := pullD_elim h36_
        replace f37_ := readD_elim f37_
        by_cases b39_ : IntKind.i64.wrap ((2 : Int) * v6) ≤ x27
        · have h40_ := (if_pos b39_).symm.trans h38_
          obtain rfl := Option.some.inj h40_
          exact ⟨step_pc 3000 (bT 1 (bF 2 (bT 9 []))) [iD v0, iD v4, iD v6] [c_d b1_, c_f f3_, c_f f5_, c_n b7_, c_f f3_, c_f f25_, c_n b27_, c_d b35_, c_d b35_, c_d b35_, c_f f3_, c_d b35_, c_f f37_, c_d b35_, c_d b35_, c_d b35_, c_d b35_, c_d b39_] [] _ rfl (by kernel_rfl) (by kernel_rfl) (by kernel_rfl) (by kernel_rfl) (by kernel_rfl) (by kernel_rfl), trivial⟩
        have h40_ := (if_neg b39_).symm.trans h38_
        obtain rfl := Option.some.inj h40_
        exact ⟨step_pc 3000 (bT 1 (bF 2 (bT 8 (bF 1 [])))) [iD v0, iD v4, iD v6] [c_d b1_, c_f f3_, c_f f5_, c_n b7_, c_f f3_, c_f f25_, c_n b27_, c_d b35_, c_d b35_, c_d b35_, c_f f3_, c_d b35_, c_f f37_, c_d b35_, c_d b35_, c_d b35_, c_d b35_, c_n b39_] [] _ rfl (by kernel_rfl) (by kernel_rfl) (by kernel_rfl) (by kernel_rfl) (by kernel_rfl) (by kernel_rfl), trivial⟩
      have h36_ := (if_neg b35_).symm.trans h28_
      obtain rfl := Option.some.inj h36_
      exact ⟨step_pc 3000 (bT 1 (bF 11 [])) [iD v0, iD v4] [c_d b1_, c_f f3_, c_f f5_, c_n b7_, c_f f3_, c_f f25_, c_n b27_, c_n b35_, c_n b35_, c_n b35_, c_n b35_, c_n b35_, c_n b35_, c_n b35_, c_n b35_, c_F] [] _ rfl (by kernel_rfl) (by kernel_rfl) (by kernel_rfl) (by kernel_rfl) (by kernel_rfl) (by kernel_rfl), trivial⟩
    have h2_ := (if_neg b1_).symm.trans h0
    obtain rfl := Option.some.inj h2_
    exact ⟨step_pc 3000 (bF 1 []) [] [c_n b1_] [] _ rfl (by kernel_rfl) (by kernel_rfl) (by kernel_rfl) (by kernel_rfl) (by kernel_rfl) (by kernel_rfl), by kernel_rfl, by kernel_rfl⟩
  | .next (_ + 1) _, _, h => by cases h
  | .out _ _, _, h => by cases h
theorem law6_L22_go (re fa fb fc fd : Int) (k : Nat) (c : List D) (st : Int) (kb : Nat) (cb : List D) (kd : Nat) (cd : List D) (x0 : Bool) (x1 : Bool) (x2 : Int) (x3 : Int) (x4 : Int) (x5 : Int) (x6 : Int) (x7 : Int) (x8 : Nat) (x9 : List D) (x10 : Int) (x11 : Nat) (x12 : List D) (x13 : Int) (x14 : Int) (x15 : Int) (x16 : Int) (x17 : Int) (x18 : Int) (x19 : Int) (x20 : Int) (x21 : Int) (x22 : Int) (x23 : Int) (x24 : Nat) (x25 : List D) (x26 : Int) (x27 : Int) {q : Nat} {ds : List D} {j : Nat} {es : List D} (h : runR (law6_L22_S re fa fb fc fd k c st kb cb kd cd x0 x1 x2 x3 x4 x5 x6 x7 x8 x9 x10 x11 x12 x13 x14 x15 x16 x17 x18 x19 x20 x21 x22 x23 x24 x25 x26 x27) (.next q ds) = some (.out j es)) : Runs (ctx [6] law6_sp) Tabs law6_L22_A (stateOf (law6_L22_gs re fa fb fc fd k c st kb cb kd cd x0 x1 x2 x3 x4 x5 x6 x7 x8 x9 x10 x11 x12 x13 x14 x15 x16 x17 x18 x19 x20 x21 x22 x23 x24 x25 x26 x27 (.next q ds))) (stateOf (law6_L22_gs re fa fb fc fd k c st kb cb kd cd x0 x1 x2 x3 x4 x5 x6 x7 x8 x9 x10 x11 x12 x13 x14 x15 x16 x17 x18 x19 x20 x21 x22 x23 x24 x25 x26 x27 (.out j es))) (law6_L22_ax (.out j es)) ∧ (nxtOf (law6_L22_gs re fa fb fc fd k c st kb cb kd cd x0 x1 x2 x3 x4 x5 x6 x7 x8 x9 x10 x11 x12 x13 x14 x15 x16 x17 x18 x19 x20 x21 x22 x23 x24 x25 x26 x27 (.out j es)), lowGS (law6_L22_gs re fa fb fc fd k c st kb cb kd cd x0 x1 x2 x3 x4 x5 x6 x7 x8 x9 x10 x11 x12 x13 x14 x15 x16 x17 x18 x19 x20 x21 x22 x23 x24 x25 x26 x27 (.out j es))) = (law6_L22_A.nx, law6_L22_A.low) :=
  runs_of' (good true _ _) law6_L22_ok (ax := law6_L22_ax) (fun _ _ => rfl) (fun _ _ => axOf_end _) (law6_L22_S_ok re fa fb fc fd k c st kb cb kd cd x0 x1 x2 x3 x4 x5 x6 x7 x8 x9 x10 x11 x12 x13 x14 x15 x16 x17 x18 x19 x20 x21 x22 x23 x24 x25 x26 x27) h
theorem law6_L22_in0 (re fa fb fc fd : Int) (k : Nat) (c : List D) (st : Int) (kb : Nat) (cb : List D) (kd : Nat) (cd : List D) (x0 : Bool) (x1 : Bool) (x2 : Int) (x3 : Int) (x4 : Int) (x5 : Int) (x6 : Int) (x7 : Int) (x8 : Nat) (x9 : List D) (x10 : Int) (x11 : Nat) (x12 : List D) (x13 : Int) (x14 : Int) (x15 : Int) (x16 : Int) (x17 : Int) (x18 : Int) (x19 : Int) (x20 : Int) (x21 : Int) (x22 : Int) (x23 : Int) (x24 : Nat) (x25 : List D) (x26 : Int) (x27 : Int) {es : List D} (h : runR (law6_L22_S re fa fb fc fd k c st kb cb kd cd x0 x1 x2 x3 x4 x5 x6 x7 x8 x9 x10 x11 x12 x13 x14 x15 x16 x17 x18 x19 x20 x21 x22 x23 x24 x25 x26 x27) (.next 0 [iD ((-1 : Int)), iD ((-1 : Int)), iD ((-1 : Int)), iD ((IntKind.i64.wrap ((x24 : Int) - (1 : Int))))]) = some (.out 0 es)) : LoopC (loopAt Try.prog 6 2) (law6_L22_E re fa fb fc fd k c st kb cb kd cd x0 x1 x2 x3 x4 x5 x6 x7 x8 x9 x10 x11 x12 x13 x14 x15 x16 x17 x18 x19 x20 x21 x22 x23 x24 x25 x26 x27) 52 noFrame law6_x22_0 es :=
  have r := law6_L22_go re fa fb fc fd k c st kb cb kd cd x0 x1 x2 x3 x4 x5 x6 x7 x8 x9 x10 x11 x12 x13 x14 x15 x16 x17 x18 x19 x20 x21 x22 x23 x24 x25 x26 x27 h
  loopin_as rfl (loop_in (l := law6_L22_A) (E := (law6_L22_E re fa fb fc fd k c st kb cb kd cd x0 x1 x2 x3 x4 x5 x6 x7 x8 x9 x10 x11 x12 x13 x14 x15 x16 x17 x18 x19 x20 x21 x22 x23 x24 x25 x26 x27)) (S := stateOf (law6_L22_gs re fa fb fc fd k c st kb cb kd cd x0 x1 x2 x3 x4 x5 x6 x7 x8 x9 x10 x11 x12 x13 x14 x15 x16 x17 x18 x19 x20 x21 x22 x23 x24 x25 x26 x27 (.next 0 [iD ((-1 : Int)), iD ((-1 : Int)), iD ((-1 : Int)), iD ((IntKind.i64.wrap ((x24 : Int) - (1 : Int))))]))) (ns := nsOf (law6_L22_gs re fa fb fc fd k c st kb cb kd cd x0 x1 x2 x3 x4 x5 x6 x7 x8 x9 x10 x11 x12 x13 x14 x15 x16 x17 x18 x19 x20 x21 x22 x23 x24 x25 x26 x27 (.next 0 [iD ((-1 : Int)), iD ((-1 : Int)), iD ((-1 : Int)), iD ((IntKind.i64.wrap ((x24 : Int) - (1 : Int))))]))) law6_L22_ok r.1 r.2 (by kernel_rfl) (by kernel_rfl) (by kernel_rfl) (by kernel_rfl))
def law6_L17_E (re fa fb fc fd : Int) (k : Nat) (c : List D) (st : Int) (kb : Nat) (cb : List D) (kd : Nat) (cd : List D) (x0 : Bool) (x1 : Bool) (x2 : Int) (x3 : Int) (x4 : Int) (x5 : Int) (x6 : Int) (x7 : Int) (x8 : Nat) (x9 : List D) (x10 : Int) (x11 : Nat) (x12 : List D) (x13 : Int) (x14 : Int) (x15 : Int) (x16 : Int) (x17 : Int) (x18 : Int) (x19 : Int) (x20 : Int) (x21 : Int) (x22 : Int) (x23 : Int) (x24 : Nat) (x25 : List D) (x26 : Int) : List AV × AHeap := ([.agg [.pure (.int .i64 re), .pure (.int .i64 fa), .pure (.int .i64 fb), .pure (.int .i64 fc), .pure (.int .i64 fd), .dsl 0], .agg [.pure (.int .i64 st), .dsl 1], .dsl 2, .ptr 3 0, .ptr 4 0, .pure (.tuple #[]), .pure (.bool false), .ptr 7 0, .pure (.int .i64 x22), .bslx 8 0 x24 0, .any 9, .pure (.int .i64 x26), .pure (.int .i64 (0 : Int)), .pure (.tuple #[]), .pure (.tuple #[]), .pure (.tuple #[]), .pure (.tuple #[]), .pure (.bool x0), .pure (.bool !x0), .agg [.pure (.int .i64 re), .pure (.int .i64 fa), .pure (.int .i64 fb), .pure (.int .i64 fc), .pure (.int .i64 fd), .dsl 0], .pure (.bool x1), .pure (.bool !x1), .pure (.bool !x1), .agg [.pure (.int .i64 re), .pure (.int .i64 fa), .pure (.int .i64 fb), .pure (.int .i64 fc), .pure (.int .i64 fd), .dsl 0], .agg [.pure (.int .i64 st), .dsl 1], .pure (.int .i64 x2), .pure (.bool (x2 != (0 : Int))), .pure (.bool (x2 != (0 : Int))), .pure (.bool (x2 != (0 : Int))), .dsl 2, .pure (.int .i64 (kd : Int)), .ptr 4 1, .dsl 1, .pure (.int .i64 (kb : Int)), .pure (.bool (decide ((kd : Int) < (kb : Int)))), .pure (.bool (decide ((kd : Int) < (kb : Int)))), .pure (.bool (decide ((kd : Int) < (kb : Int)))), .dsl 2, .pure (.int .i64 (kd : Int)), .pure (.bool (decide ((kd : Int) > (70 : Int)))), .pure (.bool (decide ((kd : Int) > (70 : Int)))), .pure (.tuple #[.agg #[.int .i64 x13, .int .i64 x14, .int .i64 x15, .int .i64 x16, .int .i64 x17, .int .i64 x18, .int .i64 x19, .int .i64 x20, .int .i64 x21], .int .i64 x22]), .agg [.pure (.int .i64 re), .pure (.int .i64 fa), .pure (.int .i64 fb), .pure (.int .i64 fc), .pure (.int .i64 fd), .dsl 0], .agg [.pure (.int .i64 x3), .pure (.int .i64 x4), .pure (.int .i64 x5), .pure (.int .i64 x6), .pure (.int .i64 x7), .dsl 5], .agg [.pure (.int .i64 st), .dsl 1], .agg [.pure (.int .i64 x10), .dsl 6], .pure (.tuple #[.agg #[.int .i64 x13, .int .i64 x14, .int .i64 x15, .int .i64 x16, .int .i64 x17, .int .i64 x18, .int .i64 x19, .int .i64 x20, .int .i64 x21], .int .i64 x22]), .pure (.agg #[.int .i64 x13, .int .i64 x14, .int .i64 x15, .int .i64 x16, .int .i64 x17, .int .i64 x18, .int .i64 x19, .int .i64 x20, .int .i64 x21]), .pure (.int .i64 x22), .pure (.int .i64 x22), .pure (.bool (x22 != (0 : Int))), .pure (.tuple #[]), .pure (.tuple #[]), .pure (.tuple #[]), .pure (.tuple #[]), .pure (.tuple #[]), .pure (.tuple #[]), .pure (.tuple #[]), .pure (.tuple #[]), .pure (.tuple #[]), .pure (.tuple #[]), .pure (.tuple #[]), .pure (.agg #[.int .i64 x13, .int .i64 x14, .int .i64 x15, .int .i64 x16, .int .i64 x17, .int .i64 x18, .int .i64 x19, .int .i64 x20, .int .i64 x21]), .pure (.int .i64 x23), .pure (.bool (x23 != (0 : Int))), .pure (.bool (x23 != (0 : Int))), .ptr 7 0, .pure (.int .i64 x13), .ptr 4 1, .dsl 1, .pure (.int .i64 (kb : Int)), .pure (.bool (decide (x13 ≥ (kb : Int)))), .pure (.bool (decide (x13 ≥ (kb : Int)))), .any 10, .any 11, .any 12, .any 13, .any 14, .any 15, .any 16, .any 17, .any 18, .any 19, .any 20, .any 21, .any 22, .any 23, .any 24, .any 25, .any 26, .any 27, .any 28, .any 29, .any 30, .any 31, .any 32, .any 33, .any 34, .any 35, .any 36, .any 37, .bslx 8 0 x24 0, .bptr 8 0, .pure (.int .i64 x26), .pure (.tuple #[]), .pure (.tuple #[]), .pure (.tuple #[]), .pure (.tuple #[]), .pure (.tuple #[]), .pure (.tuple #[]), .pure (.tuple #[]), .pure (.tuple #[]), .pure (.tuple #[]), .pure (.tuple #[]), .pure (.tuple #[]), .pure (.tuple #[]), .pure (.tuple #[]), .pure (.tuple #[]), .pure (.tuple #[]), .pure (.tuple #[]), .pure (.tuple #[]), .pure (.tuple #[]), .pure (.tuple #[]), .pure (.tuple #[]), .pure (.tuple #[]), .pure (.tuple #[]), .pure (.tuple #[]), .pure (.tuple #[]), .pure (.tuple #[]), .pure (.tuple #[]), .pure (.tuple #[]), .pure (.tuple #[]), .pure (.tuple #[]), .pure (.tuple #[]), .pure (.tuple #[]), .pure (.tuple #[]), .pure (.tuple #[]), .pure (.tuple #[]), .pure (.tuple #[]), .pure (.tuple #[]), .pure (.tuple #[]), .pure (.tuple #[]), .pure (.tuple #[]), .pure (.tuple #[]), .pure (.tuple #[]), .pure (.tuple #[]), .pure (.tuple #[]), .pure (.tuple #[]), .pure (.tuple #[]), .pure (.tuple #[]), .pure (.tuple #[]), .pure (.tuple #[]), .pure (.tuple #[]), .pure (.tuple #[]), .pure (.tuple #[]), .pure (.tuple #[]), .pure (.tuple #[]), .pure (.tuple #[]), .pure (.tuple #[]), .pure (.tuple #[]), .pure (.tuple #[]), .pure (.tuple #[]), .pure (.tuple #[]), .pure (.tuple #[]), .pure (.tuple #[]), .pure (.tuple #[]), .pure (.tuple #[]), .pure (.tuple #[]), .pure (.tuple #[]), .pure (.tuple #[]), .pure (.tuple #[]), .pure (.tuple #[]), .pure (.tuple #[]), .pure (.tuple #[]), .pure (.tuple #[]), .pure (.tuple #[]), .pure (.tuple #[]), .pure (.tuple #[]), .pure (.tuple #[]), .pure (.tuple #[]), .pure (.tuple #[]), .pure (.tuple #[]), .pure (.tuple #[]), .pure (.tuple #[]), .pure (.tuple #[]), .pure (.tuple #[]), .pure (.tuple #[]), .pure (.tuple #[]), .pure (.tuple #[]), .pure (.tuple #[]), .pure (.tuple #[]), .pure (.tuple #[]), .pure (.tuple #[])], [(8, { cells := [], opn := some 1, kind := .big x25 }), (5, { cells := [], opn := none, kind := .deep x8 x9 }), (6, { cells := [], opn := none, kind := .deep x11 x12 }), (7, { cells := [.pure (.int .i64 x13), .pure (.int .i64 x14), .pure (.int .i64 x15), .pure (.int .i64 x16), .pure (.int .i64 x17), .pure (.int .i64 x18), .pure (.int .i64 x19), .pure (.int .i64 x20), .pure (.int .i64 x21)], opn := none, kind := .cells }), (4, { cells := [.pure (.int .i64 st), .dsl 1], opn := none, kind := .cells }), (3, { cells := [.pure (.int .i64 re), .pure (.int .i64 fa), .pure (.int .i64 fb), .pure (.int .i64 fc), .pure (.int .i64 fd), .dsl 0], opn := none, kind := .cells }), (2, { cells := [], opn := none, kind := .deep kd cd }), (1, { cells := [], opn := none, kind := .deep kb cb }), (0, { cells := [], opn := none, kind := .deep k c })])
def law6_L17_A : LoopAt := ⟨6, loopAt Try.prog 6 1, 38, 52, 38, noFrame⟩
theorem law6_L17_ok : (law6_L17_A).OK := ⟨by show 38 ≤ 52; decide, by show 38 ≤ 38; decide, by kernel_rfl, rfl⟩
def law6_L17_gs (re fa fb fc fd : Int) (k : Nat) (c : List D) (st : Int) (kb : Nat) (cb : List D) (kd : Nat) (cd : List D) (x0 : Bool) (x1 : Bool) (x2 : Int) (x3 : Int) (x4 : Int) (x5 : Int) (x6 : Int) (x7 : Int) (x8 : Nat) (x9 : List D) (x10 : Int) (x11 : Nat) (x12 : List D) (x13 : Int) (x14 : Int) (x15 : Int) (x16 : Int) (x17 : Int) (x18 : Int) (x19 : Int) (x20 : Int) (x21 : Int) (x22 : Int) (x23 : Int) (x24 : Nat) (x25 : List D) (x26 : Int) : Go.Ev.Rd → Option GS
  | .next 0 ds => ghost [.val 11, .val 12] (List.range' 104 12) (law6_L17_E re fa fb fc fd k c st kb cb kd cd x0 x1 x2 x3 x4 x5 x6 x7 x8 x9 x10 x11 x12 x13 x14 x15 x16 x17 x18 x19 x20 x21 x22 x23 x24 x25 x26).1 (law6_L17_E re fa fb fc fd k c st kb cb kd cd x0 x1 x2 x3 x4 x5 x6 x7 x8 x9 x10 x11 x12 x13 x14 x15 x16 x17 x18 x19 x20 x21 x22 x23 x24 x25 x26).2 38 ds
  | .out 0 ds => ghost law6_x17_0.live law6_x17_0.junk (law6_L17_E re fa fb fc fd k c st kb cb kd cd x0 x1 x2 x3 x4 x5 x6 x7 x8 x9 x10 x11 x12 x13 x14 x15 x16 x17 x18 x19 x20 x21 x22 x23 x24 x25 x26).1 (law6_L17_E re fa fb fc fd k c st kb cb kd cd x0 x1 x2 x3 x4 x5 x6 x7 x8 x9 x10 x11 x12 x13 x14 x15 x16 x17 x18 x19 x20 x21 x22 x23 x24 x25 x26).2 38 ds
  | _ => none
def law6_L17_ex : Nat → Option Nat
  | 0 => law6_x17_0.ex
  | _ => none
def law6_L17_ax : Go.Ev.Rd → AX
  | .next _ _ => .normal
  | .out j _ => axOf (law6_L17_ex j)
def law6_L17_S0 (re fa fb fc fd : Int) (k : Nat) (c : List D) (st : Int) (kb : Nat) (cb : List D) (kd : Nat) (cd : List D) (x0 : Bool) (x1 : Bool) (x2 : Int) (x3 : Int) (x4 : Int) (x5 : Int) (x6 : Int) (x7 : Int) (x8 : Nat) (x9 : List D) (x10 : Int) (x11 : Nat) (x12 : List D) (x13 : Int) (x14 : Int) (x15 : Int) (x16 : Int) (x17 : Int) (x18 : Int) (x19 : Int) (x20 : Int) (x21 : Int) (x22 : Int) (x23 : Int) (x24 : Nat) (x25 : List D) (x26 : Int) (ds : List D) : Option Go.Ev.Rd := pullD (α := Int × Int) (some (.tup ds)) (fun d => ((D.vi (D.at d 0)), (D.vi (D.at d 1)))) (fun (s11, s12) => .tup [iD s11, iD s12]) fun (s11, s12) => ((if s12 < (x24 : Int) then guardP ((0 : Int) ≤ s12 ∧ s12.toNat < x24) (pullD (α := Int) (readD x25 (0 + s12.toNat * 1) 1 false) (fun d => ((D.vi d))) (fun v0 => iD v0) fun v0 => (some (.next 0 [iD (if v0 > s11 then v0 else s11), iD (IntKind.i64.wrap (s12 + (1 : Int)))]))) else some (.out 0 [iD s11])))
def law6_L17_S (re fa fb fc fd : Int) (k : Nat) (c : List D) (st : Int) (kb : Nat) (cb : List D) (kd : Nat) (cd : List D) (x0 : Bool) (x1 : Bool) (x2 : Int) (x3 : Int) (x4 : Int) (x5 : Int) (x6 : Int) (x7 : Int) (x8 : Nat) (x9 : List D) (x10 : Int) (x11 : Nat) (x12 : List D) (x13 : Int) (x14 : Int) (x15 : Int) (x16 : Int) (x17 : Int) (x18 : Int) (x19 : Int) (x20 : Int) (x21 : Int) (x22 : Int) (x23 : Int) (x24 : Nat) (x25 : List D) (x26 : Int) : Go.Ev.Rd → Option Go.Ev.Rd
  | .next 0 ds => law6_L17_S0 re fa fb fc fd k c st kb cb kd cd x0 x1 x2 x3 x4 x5 x6 x7 x8 x9 x10 x11 x12 x13 x14 x15 x16 x17 x18 x19 x20 x21 x22 x23 x24 x25 x26 ds
  | _ => none
theorem law6_L17_S_0 (re fa fb fc fd : Int) (k : Nat) (c : List D) (st : Int) (kb : Nat) (cb : List D) (kd : Nat) (cd : List D) (x0 : Bool) (x1 : Bool) (x2 : Int) (x3 : Int) (x4 : Int) (x5 : Int) (x6 : Int) (x7 : Int) (x8 : Nat) (x9 : List D) (x10 : Int) (x11 : Nat) (x12 : List D) (x13 : Int) (x14 : Int) (x15 : Int) (x16 : Int) (x17 : Int) (x18 : Int) (x19 : Int) (x20 : Int) (x21 : Int) (x22 : Int) (x23 : Int) (x24 : Nat) (x25 : List D) (x26 : Int) (ds : List D) : law6_L17_S re fa fb fc fd k c st kb cb kd cd x0 x1 x2 x3 x4 x5 x6 x7 x8 x9 x10 x11 x12 x13 x14 x15 x16 x17 x18 x19 x20 x21 x22 x23 x24 x25 x26 (.next 0 ds) = law6_L17_S0 re fa fb fc fd k c st kb cb kd cd x0 x1 x2 x3 x4 x5 x6 x7 x8 x9 x10 x11 x12 x13 x14 x15 x16 x17 x18 x19 x20 x21 x22 x23 x24 x25 x26 ds := rfl
theorem law6_L17_S_ok (re fa fb fc fd : Int) (k : Nat) (c : List D) (st : Int) (kb : Nat) (cb : List D) (kd : Nat) (cd : List D) (x0 : Bool) (x1 : Bool) (x2 : Int) (x3 : Int) (x4 : Int) (x5 : Int) (x6 : Int) (x7 : Int) (x8 : Nat) (x9 : List D) (x10 : Int) (x11 : Nat) (x12 : List D) (x13 : Int) (x14 : Int) (x15 : Int) (x16 : Int) (x17 : Int) (x18 : Int) (x19 : Int) (x20 : Int) (x21 : Int) (x22 : Int) (x23 : Int) (x24 : Nat) (x25 : List D) (x26 : Int) : ∀ s_ t_, law6_L17_S re fa fb fc fd k c st kb cb kd cd x0 x1 x2 x3 x4 x5 x6 x7 x8 x9 x10 x11 x12 x13 x14 x15 x16 x17 x18 x19 x20 x21 x22 x23 x24 x25 x26 s_ = some t_ → Step (ctx [6] law6_sp) Tabs law6_L17_A (stateOf (law6_L17_gs re fa fb fc fd k c st kb cb kd cd x0 x1 x2 x3 x4 x5 x6 x7 x8 x9 x10 x11 x12 x13 x14 x15 x16 x17 x18 x19 x20 x21 x22 x23 x24 x25 x26 s_)) (stateOf (law6_L17_gs re fa fb fc fd k c st kb cb kd cd x0 x1 x2 x3 x4 x5 x6 x7 x8 x9 x10 x11 x12 x13 x14 x15 x16 x17 x18 x19 x20 x21 x22 x23 x24 x25 x26 t_)) (law6_L17_ax t_) ∧ EndOK law6_L17_A.nx law6_L17_A.low (law6_L17_gs re fa fb fc fd k c st kb cb kd cd x0 x1 x2 x3 x4 x5 x6 x7 x8 x9 x10 x11 x12 x13 x14 x15 x16 x17 x18 x19 x20 x21 x22 x23 x24 x25 x26) t_
  | .next 0 ds, t_, h => by
    have h_ : law6_L17_S0 re fa fb fc fd k c st kb cb kd cd x0 x1 x2 x3 x4 x5 x6 x7 x8 x9 x10 x11 x12 x13 x14 x15 x16 x17 x18 x19 x20 x21 x22 x23 x24 x25 x26 ds = some t_ := h
    clear h
    unfold law6_L17_S0 at h_
    obtain ⟨⟨s11, s12⟩, e0, h0⟩ := pullD_elim h_
    clear h_
    obtain rfl := tup_inj e0
    by_cases b1_ : s12 < (x24 : Int)
    · have h2_ := (if_pos b1_).symm.trans h0
      obtain ⟨f3_, h4_⟩ := guardP_elim h2_
      obtain ⟨v0, f5_, h6_⟩ := pullD_elim h4_
      replace f5_ := readD_elim f5_
      obtain rfl := Option.some.inj h6_
      exact ⟨step_pc 3000 (bT 1 []) [iD v0] [c_d b1_, c_f f3_, c_f f5_] [] _ rfl (by kernel_rfl) (by kernel_rfl) (by kernel_rfl) (by kernel_rfl) (by kernel_rfl) (by kernel_rfl), trivial⟩
    have h2_ := (if_neg b1_).symm.trans h0
    obtain rfl := Option.some.inj h2_
    exact ⟨step_pc 3000 (bF 1 []) [] [c_n b1_] [] _ rfl (by kernel_rfl) (by kernel_rfl) (by kernel_rfl) (by kernel_rfl) (by kernel_rfl) (by kernel_rfl), by kernel_rfl, by kernel_rfl⟩
  | .next (_ + 1) _, _, h => by cases h
  | .out _ _, _, h => by cases h
theorem law6_L17_go (re fa fb fc fd : Int) (k : Nat) (c : List D) (st : Int) (kb : Nat) (cb : List D) (kd : Nat) (cd : List D) (x0 : Bool) (x1 : Bool) (x2 : Int) (x3 : Int) (x4 : Int) (x5 : Int) (x6 : Int) (x7 : Int) (x8 : Nat) (x9 : List D) (x10 : Int) (x11 : Nat) (x12 : List D) (x13 : Int) (x14 : Int) (x15 : Int) (x16 : Int) (x17 : Int) (x18 : Int) (x19 : Int) (x20 : Int) (x21 : Int) (x22 : Int) (x23 : Int) (x24 : Nat) (x25 : List D) (x26 : Int) {q : Nat} {ds : List D} {j : Nat} {es : List D} (h : runR (law6_L17_S re fa fb fc fd k c st kb cb kd cd x0 x1 x2 x3 x4 x5 x6 x7 x8 x9 x10 x11 x12 x13 x14 x15 x16 x17 x18 x19 x20 x21 x22 x23 x24 x25 x26) (.next q ds) = some (.out j es)) : Runs (ctx [6] law6_sp) Tabs law6_L17_A (stateOf (law6_L17_gs re fa fb fc fd k c st kb cb kd cd x0 x1 x2 x3 x4 x5 x6 x7 x8 x9 x10 x11 x12 x13 x14 x15 x16 x17 x18 x19 x20 x21 x22 x23 x24 x25 x26 (.next q ds))) (stateOf (law6_L17_gs re fa fb fc fd k c st kb cb kd cd x0 x1 x2 x3 x4 x5 x6 x7 x8 x9 x10 x11 x12 x13 x14 x15 x16 x17 x18 x19 x20 x21 x22 x23 x24 x25 x26 (.out j es))) (law6_L17_ax (.out j es)) ∧ (nxtOf (law6_L17_gs re fa fb fc fd k c st kb cb kd cd x0 x1 x2 x3 x4 x5 x6 x7 x8 x9 x10 x11 x12 x13 x14 x15 x16 x17 x18 x19 x20 x21 x22 x23 x24 x25 x26 (.out j es)), lowGS (law6_L17_gs re fa fb fc fd k c st kb cb kd cd x0 x1 x2 x3 x4 x5 x6 x7 x8 x9 x10 x11 x12 x13 x14 x15 x16 x17 x18 x19 x20 x21 x22 x23 x24 x25 x26 (.out j es))) = (law6_L17_A.nx, law6_L17_A.low) :=
  runs_of' (good true _ _) law6_L17_ok (ax := law6_L17_ax) (fun _ _ => rfl) (fun _ _ => axOf_end _) (law6_L17_S_ok re fa fb fc fd k c st kb cb kd cd x0 x1 x2 x3 x4 x5 x6 x7 x8 x9 x10 x11 x12 x13 x14 x15 x16 x17 x18 x19 x20 x21 x22 x23 x24 x25 x26) h
theorem law6_L17_in0 (re fa fb fc fd : Int) (k : Nat) (c : List D) (st : Int) (kb : Nat) (cb : List D) (kd : Nat) (cd : List D) (x0 : Bool) (x1 : Bool) (x2 : Int) (x3 : Int) (x4 : Int) (x5 : Int) (x6 : Int) (x7 : Int) (x8 : Nat) (x9 : List D) (x10 : Int) (x11 : Nat) (x12 : List D) (x13 : Int) (x14 : Int) (x15 : Int) (x16 : Int) (x17 : Int) (x18 : Int) (x19 : Int) (x20 : Int) (x21 : Int) (x22 : Int) (x23 : Int) (x24 : Nat) (x25 : List D) (x26 : Int) {es : List D} (h : runR (law6_L17_S re fa fb fc fd k c st kb cb kd cd x0 x1 x2 x3 x4 x5 x6 x7 x8 x9 x10 x11 x12 x13 x14 x15 x16 x17 x18 x19 x20 x21 x22 x23 x24 x25 x26) (.next 0 [iD x26, iD ((0 : Int))]) = some (.out 0 es)) : LoopC (loopAt Try.prog 6 1) (law6_L17_E re fa fb fc fd k c st kb cb kd cd x0 x1 x2 x3 x4 x5 x6 x7 x8 x9 x10 x11 x12 x13 x14 x15 x16 x17 x18 x19 x20 x21 x22 x23 x24 x25 x26) 38 noFrame law6_x17_0 es :=
  have r := law6_L17_go re fa fb fc fd k c st kb cb kd cd x0 x1 x2 x3 x4 x5 x6 x7 x8 x9 x10 x11 x12 x13 x14 x15 x16 x17 x18 x19 x20 x21 x22 x23 x24 x25 x26 h
  loopin_as rfl (loop_in (l := law6_L17_A) (E := (law6_L17_E re fa fb fc fd k c st kb cb kd cd x0 x1 x2 x3 x4 x5 x6 x7 x8 x9 x10 x11 x12 x13 x14 x15 x16 x17 x18 x19 x20 x21 x22 x23 x24 x25 x26)) (S := stateOf (law6_L17_gs re fa fb fc fd k c st kb cb kd cd x0 x1 x2 x3 x4 x5 x6 x7 x8 x9 x10 x11 x12 x13 x14 x15 x16 x17 x18 x19 x20 x21 x22 x23 x24 x25 x26 (.next 0 [iD x26, iD ((0 : Int))]))) (ns := nsOf (law6_L17_gs re fa fb fc fd k c st kb cb kd cd x0 x1 x2 x3 x4 x5 x6 x7 x8 x9 x10 x11 x12 x13 x14 x15 x16 x17 x18 x19 x20 x21 x22 x23 x24 x25 x26 (.next 0 [iD x26, iD ((0 : Int))]))) law6_L17_ok r.1 r.2 (by kernel_rfl) (by kernel_rfl) (by kernel_rfl) (by kernel_rfl))
def law6_L12_E (re fa fb fc fd : Int) (k : Nat) (c : List D) (st : Int) (kb : Nat) (cb : List D) (kd : Nat) (cd : List D) (x0 : Bool) (x1 : Bool) (x2 : Int) (x3 : Int) (x4 : Int) (x5 : Int) (x6 : Int) (x7 : Int) (x8 : Nat) (x9 : List D) (x10 : Int) (x11 : Nat) (x12 : List D) (x13 : Int) (x14 : Int) (x15 : Int) (x16 : Int) (x17 : Int) (x18 : Int) (x19 : Int) (x20 : Int) (x21 : Int) (x22 : Int) (x23 : Int) : List AV × AHeap := ([.agg [.pure (.int .i64 re), .pure (.int .i64 fa), .pure (.int .i64 fb), .pure (.int .i64 fc), .pure (.int .i64 fd), .dsl 0], .agg [.pure (.int .i64 st), .dsl 1], .dsl 2, .ptr 3 0, .ptr 4 0, .pure (.tuple #[]), .pure (.bool false), .ptr 7 0, .pure (.int .i64 x22), .pure (.slice none 0 0), .pure (.int .i64 (0 : Int)), .pure (.tuple #[]), .pure (.tuple #[]), .pure (.tuple #[]), .pure (.tuple #[]), .pure (.tuple #[]), .pure (.tuple #[]), .pure (.bool x0), .pure (.bool !x0), .agg [.pure (.int .i64 re), .pure (.int .i64 fa), .pure (.int .i64 fb), .pure (.int .i64 fc), .pure (.int .i64 fd), .dsl 0], .pure (.bool x1), .pure (.bool !x1), .pure (.bool !x1), .agg [.pure (.int .i64 re), .pure (.int .i64 fa), .pure (.int .i64 fb), .pure (.int .i64 fc), .pure (.int .i64 fd), .dsl 0], .agg [.pure (.int .i64 st), .dsl 1], .pure (.int .i64 x2), .pure (.bool (x2 != (0 : Int))), .pure (.bool (x2 != (0 : Int))), .pure (.bool (x2 != (0 : Int))), .dsl 2, .pure (.int .i64 (kd : Int)), .ptr 4 1, .dsl 1, .pure (.int .i64 (kb : Int)), .pure (.bool (decide ((kd : Int) < (kb : Int)))), .pure (.bool (decide ((kd : Int) < (kb : Int)))), .pure (.bool (decide ((kd : Int) < (kb : Int)))), .dsl 2, .pure (.int .i64 (kd : Int)), .pure (.bool (decide ((kd : Int) > (70 : Int)))), .pure (.bool (decide ((kd : Int) > (70 : Int)))), .pure (.tuple #[.agg #[.int .i64 x13, .int .i64 x14, .int .i64 x15, .int .i64 x16, .int .i64 x17, .int .i64 x18, .int .i64 x19, .int .i64 x20, .int .i64 x21], .int .i64 x22]), .agg [.pure (.int .i64 re), .pure (.int .i64 fa), .pure (.int .i64 fb), .pure (.int .i64 fc), .pure (.int .i64 fd), .dsl 0], .agg [.pure (.int .i64 x3), .pure (.int .i64 x4), .pure (.int .i64 x5), .pure (.int .i64 x6), .pure (.int .i64 x7), .dsl 5], .agg [.pure (.int .i64 st), .dsl 1], .agg [.pure (.int .i64 x10), .dsl 6], .pure (.tuple #[.agg #[.int .i64 x13, .int .i64 x14, .int .i64 x15, .int .i64 x16, .int .i64 x17, .int .i64 x18, .int .i64 x19, .int .i64 x20, .int .i64 x21], .int .i64 x22]), .pure (.agg #[.int .i64 x13, .int .i64 x14, .int .i64 x15, .int .i64 x16, .int .i64 x17, .int .i64 x18, .int .i64 x19, .int .i64 x20, .int .i64 x21]), .pure (.int .i64 x22), .pure (.int .i64 x22), .pure (.bool (x22 != (0 : Int))), .pure (.tuple #[]), .pure (.tuple #[]), .pure (.tuple #[]), .pure (.tuple #[]), .pure (.tuple #[]), .pure (.tuple #[]), .pure (.tuple #[]), .pure (.tuple #[]), .pure (.tuple #[]), .pure (.tuple #[]), .pure (.tuple #[]), .pure (.agg #[.int .i64 x13, .int .i64 x14, .int .i64 x15, .int .i64 x16, .int .i64 x17, .int .i64 x18, .int .i64 x19, .int .i64 x20, .int .i64 x21]), .pure (.int .i64 x23), .pure (.bool (x23 != (0 : Int))), .pure (.bool (x23 != (0 : Int))), .ptr 7 0, .pure (.int .i64 x13), .ptr 4 1, .dsl 1, .pure (.int .i64 (kb : Int)), .pure (.bool (decide (x13 ≥ (kb : Int)))), .pure (.bool (decide (x13 ≥ (kb : Int)))), .pure (.tuple #[]), .pure (.tuple #[]), .pure (.tuple #[]), .pure (.tuple #[]), .pure (.tuple #[]), .pure (.tuple #[]), .pure (.tuple #[]), .pure (.tuple #[]), .pure (.tuple #[]), .pure (.tuple #[]), .pure (.tuple #[]), .pure (.tuple #[]), .pure (.tuple #[]), .pure (.tuple #[]), .pure (.tuple #[]), .pure (.tuple #[]), .pure (.tuple #[]), .pure (.tuple #[]), .pure (.tuple #[]), .pure (.tuple #[]), .pure (.tuple #[]), .pure (.tuple #[]), .pure (.tuple #[]), .pure (.tuple #[]), .pure (.tuple #[]), .pure (.tuple #[]), .pure (.tuple #[]), .pure (.tuple #[]), .pure (.tuple #[]), .pure (.tuple #[]), .pure (.tuple #[]), .pure (.tuple #[]), .pure (.tuple #[]), .pure (.tuple #[]), .pure (.tuple #[]), .pure (.tuple #[]), .pure (.tuple #[]), .pure (.tuple #[]), .pure (.tuple #[]), .pure (.tuple #[]), .pure (.tuple #[]), .pure (.tuple #[]), .pure (.tuple #[]), .pure (.tuple #[]), .pure (.tuple #[]), .pure (.tuple #[]), .pure (.tuple #[]), .pure (.tuple #[]), .pure (.tuple #[]), .pure (.tuple #[]), .pure (.tuple #[]), .pure (.tuple #[]), .pure (.tuple #[]), .pure (.tuple #[]), .pure (.tuple #[]), .pure (.tuple #[]), .pure (.tuple #[]), .pure (.tuple #[]), .pure (.tuple #[]), .pure (.tuple #[]), .pure (.tuple #[]), .pure (.tuple #[]), .pure (.tuple #[]), .pure (.tuple #[]), .pure (.tuple #[]), .pure (.tuple #[]), .pure (.tuple #[]), .pure (.tuple #[]), .pure (.tuple #[]), .pure (.tuple #[]), .pure (.tuple #[]), .pure (.tuple #[]), .pure (.tuple #[]), .pure (.tuple #[]), .pure (.tuple #[]), .pure (.tuple #[]), .pure (.tuple #[]), .pure (.tuple #[]), .pure (.tuple #[]), .pure (.tuple #[]), .pure (.tuple #[]), .pure (.tuple #[]), .pure (.tuple #[]), .pure (.tuple #[]), .pure (.tuple #[]), .pure (.tuple #[]), .pure (.tuple #[]), .pure (.tuple #[]), .pure (.tuple #[]), .pure (.tuple #[]), .pure (.tuple #[]), .pure (.tuple #[]), .pure (.tuple #[]), .pure (.tuple #[]), .pure (.tuple #[]), .pure (.tuple #[]), .pure (.tuple #[]), .pure (.tuple #[]), .pure (.tuple #[]), .pure (.tuple #[]), .pure (.tuple #[]), .pure (.tuple #[]), .pure (.tuple #[]), .pure (.tuple #[]), .pure (.tuple #[]), .pure (.tuple #[]), .pure (.tuple #[]), .pure (.tuple #[]), .pure (.tuple #[]), .pure (.tuple #[]), .pure (.tuple #[]), .pure (.tuple #[]), .pure (.tuple #[]), .pure (.tuple #[]), .pure (.tuple #[]), .pure (.tuple #[]), .pure (.tuple #[]), .pure (.tuple #[]), .pure (.tuple #[]), .pure (.tuple #[])], [(5, { cells := [], opn := none, kind := .deep x8 x9 }), (6, { cells := [], opn := none, kind := .deep x11 x12 }), (7, { cells := [.pure (.int .i64 x13), .pure (.int .i64 x14), .pure (.int .i64 x15), .pure (.int .i64 x16), .pure (.int .i64 x17), .pure (.int .i64 x18), .pure (.int .i64 x19), .pure (.int .i64 x20), .pure (.int .i64 x21)], opn := none, kind := .cells }), (4, { cells := [.pure (.int .i64 st), .dsl 1], opn := none, kind := .cells }), (3, { cells := [.pure (.int .i64 re), .pure (.int .i64 fa), .pure (.int .i64 fb), .pure (.int .i64 fc), .pure (.int .i64 fd), .dsl 0], opn := none, kind := .cells }), (2, { cells := [], opn := none, kind := .deep kd cd }), (1, { cells := [], opn := none, kind := .deep kb cb }), (0, { cells := [], opn := none, kind := .deep k c })])
def law6_L12_A : LoopAt := ⟨6, loopAt Try.prog 6 0, 8, 38, 8, noFrame⟩
theorem law6_L12_ok : (law6_L12_A).OK := ⟨by show 8 ≤ 38; decide, by show 8 ≤ 8; decide, by kernel_rfl, rfl⟩
def law6_L12_gs (re fa fb fc fd : Int) (k : Nat) (c : List D) (st : Int) (kb : Nat) (cb : List D) (kd : Nat) (cd : List D) (x0 : Bool) (x1 : Bool) (x2 : Int) (x3 : Int) (x4 : Int) (x5 : Int) (x6 : Int) (x7 : Int) (x8 : Nat) (x9 : List D) (x10 : Int) (x11 : Nat) (x12 : List D) (x13 : Int) (x14 : Int) (x15 : Int) (x16 : Int) (x17 : Int) (x18 : Int) (x19 : Int) (x20 : Int) (x21 : Int) (x22 : Int) (x23 : Int) : Go.Ev.Rd → Option GS
  | .next 0 ds => ghost [.grow 9 1, .val 10] (List.range' 73 28) (law6_L12_E re fa fb fc fd k c st kb cb kd cd x0 x1 x2 x3 x4 x5 x6 x7 x8 x9 x10 x11 x12 x13 x14 x15 x16 x17 x18 x19 x20 x21 x22 x23).1 (law6_L12_E re fa fb fc fd k c st kb cb kd cd x0 x1 x2 x3 x4 x5 x6 x7 x8 x9 x10 x11 x12 x13 x14 x15 x16 x17 x18 x19 x20 x21 x22 x23).2 8 ds
  | .next 1 ds => ghost [.nil 9, .val 10] (List.range' 73 28) (law6_L12_E re fa fb fc fd k c st kb cb kd cd x0 x1 x2 x3 x4 x5 x6 x7 x8 x9 x10 x11 x12 x13 x14 x15 x16 x17 x18 x19 x20 x21 x22 x23).1 (law6_L12_E re fa fb fc fd k c st kb cb kd cd x0 x1 x2 x3 x4 x5 x6 x7 x8 x9 x10 x11 x12 x13 x14 x15 x16 x17 x18 x19 x20 x21 x22 x23).2 8 ds
  | .out 0 ds => ghost law6_x12_0.live law6_x12_0.junk (law6_L12_E re fa fb fc fd k c st kb cb kd cd x0 x1 x2 x3 x4 x5 x6 x7 x8 x9 x10 x11 x12 x13 x14 x15 x16 x17 x18 x19 x20 x21 x22 x23).1 (law6_L12_E re fa fb fc fd k c st kb cb kd cd x0 x1 x2 x3 x4 x5 x6 x7 x8 x9 x10 x11 x12 x13 x14 x15 x16 x17 x18 x19 x20 x21 x22 x23).2 8 ds
  | .out 1 ds => ghost law6_x12_1.live law6_x12_1.junk (law6_L12_E re fa fb fc fd k c st kb cb kd cd x0 x1 x2 x3 x4 x5 x6 x7 x8 x9 x10 x11 x12 x13 x14 x15 x16 x17 x18 x19 x20 x21 x22 x23).1 (law6_L12_E re fa fb fc fd k c st kb cb kd cd x0 x1 x2 x3 x4 x5 x6 x7 x8 x9 x10 x11 x12 x13 x14 x15 x16 x17 x18 x19 x20 x21 x22 x23).2 8 ds
  | _ => none
def law6_L12_ex : Nat → Option Nat
  | 0 => law6_x12_0.ex
  | 1 => law6_x12_1.ex
  | _ => none
def law6_L12_ax : Go.Ev.Rd → AX
  | .next _ _ => .normal
  | .out j _ => axOf (law6_L12_ex j)
def law6_L12_S0 (re fa fb fc fd : Int) (k : Nat) (c : List D) (st : Int) (kb : Nat) (cb : List D) (kd : Nat) (cd : List D) (x0 : Bool) (x1 : Bool) (x2 : Int) (x3 : Int) (x4 : Int) (x5 : Int) (x6 : Int) (x7 : Int) (x8 : Nat) (x9 : List D) (x10 : Int) (x11 : Nat) (x12 : List D) (x13 : Int) (x14 : Int) (x15 : Int) (x16 : Int) (x17 : Int) (x18 : Int) (x19 : Int) (x20 : Int) (x21 : Int) (x22 : Int) (x23 : Int) (ds : List D) : Option Go.Ev.Rd := pullD (α := Nat × (List D) × Int) (some (.tup ds)) (fun d => ((D.ln (D.at d 0)), (D.lc (D.at d 0)), (D.vi (D.at d 1)))) (fun (s9n, s9c, s10) => .tup [.list s9n s9c, iD s10]) fun (s9n, s9c, s10) => ((if s10 < (kb : Int) then guardP ((0 : Int) ≤ s10 ∧ s10.toNat < kb) (pullD (α := Int) (readD cb (s10.toNat * 1) 1 false) (fun d => ((D.vi d))) (fun v0 => iD v0) fun v0 => (guardP ((0 : Int) ≤ s10 ∧ s10.toNat < kd) (pullD (α := Int) (readD cd (s10.toNat * 1) 1 false) (fun d => ((D.vi d))) (fun v1 => iD v1) fun v1 => (pullD (α := Int) (m_32 [iD v1, iD (IntKind.i64.wrap (IntKind.i64.wrap ((2 : Int) * re) + (1 : Int)))]) (fun d => ((D.vi d))) (fun r2 => iD r2) fun r2 => (guardP ((∀ (u : D), u ∈ [dCell (.int .i64 (IntKind.i64.wrap (IntKind.i64.wrap (v0 - re) + r2)))] → cellD u) ∧ s9n * 1 ≤ s9c.length ∧ (s9n + (0 + 1)) * 8 ≤ 140737488355328 ∧ s9n + (0 + 1) ≤ 4611686018427387904) (some (.next 0 [.list (s9n + (0 + 1)) (List.append (List.take (s9n * 1) s9c) [dCell (.int .i64 (IntKind.i64.wrap (IntKind.i64.wrap (v0 - re) + r2)))]), iD (IntKind.i64.wrap (s10 + (1 : Int)))]))))))) else some (.out 0 [.list s9n s9c])))
def law6_L12_S1 (re fa fb fc fd : Int) (k : Nat) (c : List D) (st : Int) (kb : Nat) (cb : List D) (kd : Nat) (cd : List D) (x0 : Bool) (x1 : Bool) (x2 : Int) (x3 : Int) (x4 : Int) (x5 : Int) (x6 : Int) (x7 : Int) (x8 : Nat) (x9 : List D) (x10 : Int) (x11 : Nat) (x12 : List D) (x13 : Int) (x14 : Int) (x15 : Int) (x16 : Int) (x17 : Int) (x18 : Int) (x19 : Int) (x20 : Int) (x21 : Int) (x22 : Int) (x23 : Int) (ds : List D) : Option Go.Ev.Rd := pullD (α := Int) (some (.tup ds)) (fun d => ((D.vi (D.at d 1)))) (fun s10 => .tup [.one (.tuple #[]), iD s10]) fun s10 => ((if s10 < (kb : Int) then guardP ((0 : Int) ≤ s10 ∧ s10.toNat < kb) (pullD (α := Int) (readD cb (s10.toNat * 1) 1 false) (fun d => ((D.vi d))) (fun v0 => iD v0) fun v0 => (guardP ((0 : Int) ≤ s10 ∧ s10.toNat < kd) (pullD (α := Int) (readD cd (s10.toNat * 1) 1 false) (fun d => ((D.vi d))) (fun v1 => iD v1) fun v1 => (pullD (α := Int) (m_32 [iD v1, iD (IntKind.i64.wrap (IntKind.i64.wrap ((2 : Int) * re) + (1 : Int)))]) (fun d => ((D.vi d))) (fun r2 => iD r2) fun r2 => (some (.next 0 [.list 1 [iD (IntKind.i64.wrap (IntKind.i64.wrap (v0 - re) + r2))], iD (IntKind.i64.wrap (s10 + (1 : Int)))])))))) else some (.out 1 [.one (.tuple #[])])))
def law6_L12_S (re fa fb fc fd : Int) (k : Nat) (c : List D) (st : Int) (kb : Nat) (cb : List D) (kd : Nat) (cd : List D) (x0 : Bool) (x1 : Bool) (x2 : Int) (x3 : Int) (x4 : Int) (x5 : Int) (x6 : Int) (x7 : Int) (x8 : Nat) (x9 : List D) (x10 : Int) (x11 : Nat) (x12 : List D) (x13 : Int) (x14 : Int) (x15 : Int) (x16 : Int) (x17 : Int) (x18 : Int) (x19 : Int) (x20 : Int) (x21 : Int) (x22 : Int) (x23 : Int) : Go.Ev.Rd → Option Go.Ev.Rd
  | .next 0 ds => law6_L12_S0 re fa fb fc fd k c st kb cb kd cd x0 x1 x2 x3 x4 x5 x6 x7 x8 x9 x10 x11 x12 x13 x14 x15 x16 x17 x18 x19 x20 x21 x22 x23 ds
  | .next 1 ds => law6_L12_S1 re fa fb fc fd k c st kb cb kd cd x0 x1 x2 x3 x4 x5 x6 x7 x8 x9 x10 x11 x12 x13 x14 x15 x16 x17 x18 x19 x20 x21 x22 x23 ds
  | _ => none
theorem law6_L12_S_0 (re fa fb fc fd : Int) (k : Nat) (c : List D) (st : Int) (kb : Nat) (cb : List D) (kd : Nat) (cd : List D) (x0 : Bool) (x1 : Bool) (x2 : Int) (x3 : Int) (x4 : Int) (x5 : Int) (x6 : Int) (x7 : Int) (x8 : Nat) (x9 : List D) (x10 : Int) (x11 : Nat) (x12 : List D) (x13 : Int) (x14 : Int) (x15 : Int) (x16 : Int) (x17 : Int) (x18 : Int) (x19 : Int) (x20 : Int) (x21 : Int) (x22 : Int) (x23 : Int) (ds : List D) : law6_L12_S re fa fb fc fd k c st kb cb kd cd x0 x1 x2 x3 x4 x5 x6 x7 x8 x9 x10 x11 x12 x13 x14 x15 x16 x17 x18 x19 x20 x21 x22 x23 (.next 0 ds) = law6_L12_S0 re fa fb fc fd k c st kb cb kd cd x0 x1 x2 x3 x4 x5 x6 x7 x8 x9 x10 x11 x12 x13 x14 x15 x16 x17 x18 x19 x20 x21 x22 x23 ds := rfl
theorem law6_L12_S_1 (re fa fb fc fd : Int) (k : Nat) (c : List D) (st : Int) (kb : Nat) (cb : List D) (kd : Nat) (cd : List D) (x0 : Bool) (x1 : Bool) (x2 : Int) (x3 : Int) (x4 : Int) (x5 : Int) (x6 : Int) (x7 : Int) (x8 : Nat) (x9 : List D) (x10 : Int) (x11 : Nat) (x12 : List D) (x13 : Int) (x14 : Int) (x15 : Int) (x16 : Int) (x17 : Int) (x18 : Int) (x19 : Int) (x20 : Int) (x21 : Int) (x22 : Int) (x23 : Int) (ds : List D) : law6_L12_S re fa fb fc fd k c st kb cb kd cd x0 x1 x2 x3 x4 x5 x6 x7 x8 x9 x10 x11 x12 x13 x14 x15 x16 x17 x18 x19 x20 x21 x22 x23 (.next 1 ds) = law6_L12_S1 re fa fb fc fd k c st kb cb kd cd x0 x1 x2 x3 x4 x5 x6 x7 x8 x9 x10 x11 x12 x13 x14 x15 x16 x17 x18 x19 x20 x21 x22 x23 ds := rfl
theorem law6_L12_S_ok (re fa fb fc fd : Int) (k : Nat) (c : List D) (st : Int) (kb : Nat) (cb : List D) (kd : Nat) (cd : List D) (x0 : Bool) (x1 : Bool) (x2 : Int) (x3 : Int) (x4 : Int) (x5 : Int) (x6 : Int) (x7 : Int) (x8 : Nat) (x9 : List D) (x10 : Int) (x11 : Nat) (x12 : List D) (x13 : Int) (x14 : Int) (x15 : Int) (x16 : Int) (x17 : Int) (x18 : Int) (x19 : Int) (x20 : Int) (x21 : Int) (x22 : Int) (x23 : Int) : ∀ s_ t_, law6_L12_S re fa fb fc fd k c st kb cb kd cd x0 x1 x2 x3 x4 x5 x6 x7 x8 x9 x10 x11 x12 x13 x14 x15 x16 x17 x18 x19 x20 x21 x22 x23 s_ = some t_ → Step (ctx [6] law6_sp) Tabs law6_L12_A (stateOf (law6_L12_gs re fa fb fc fd k c st kb cb kd cd x0 x1 x2 x3 x4 x5 x6 x7 x8 x9 x10 x11 x12 x13 x14 x15 x16 x17 x18 x19 x20 x21 x22 x23 s_)) (stateOf (law6_L12_gs re fa fb fc fd k c st kb cb kd cd x0 x1 x2 x3 x4 x5 x6 x7 x8 x9 x10 x11 x12 x13 x14 x15 x16 x17 x18 x19 x20 x21 x22 x23 t_)) (law6_L12_ax t_) ∧ EndOK law6_L12_A.nx law6_L12_A.low (law6_L12_gs re fa fb fc fd k c st kb cb kd cd x0 x1 x2 x3 x4 x5 x6 x7 x8 x9 x10 x11 x12 x13 x14 x15 x16 x17 x18 x19 x20 x21 x22 x23) t_
  | .next 0 ds, t_, h => by
    have h_ : law6_L12_S0 re fa fb fc fd k c st kb cb kd cd x0 x1 x2 x3 x4 x5 x6 x7 x8 x9 x10 x11 x12 x13 x14 x15 x16 x17 x18 x19 x20 x21 x22 x23 ds = some t_ := h
    clear h
    unfold law6_L12_S0 at h_
    obtain ⟨⟨s9n, s9c, s10⟩, e0, h0⟩ := pullD_elim h_
    clear h_
    obtain rfl := tup_inj e0
    by_cases b1_ : s10 < (kb : Int)
    · have h2_ := (if_pos b1_).symm.trans h0
      obtain ⟨f3_, h4_⟩ := guardP_elim h2_
      obtain ⟨v0, f5_, h6_⟩ := pullD_elim h4_
      replace f5_ := readD_elim f5_
      obtain ⟨f7_, h8_⟩ := guardP_elim h6_
      obtain ⟨v1, f9_, h10_⟩ := pullD_elim h8_
      replace f9_ := readD_elim f9_
      obtain ⟨r2, f11_, h12_⟩ := pullD_elim h10_
      replace f11_ := m_32_ok f11_
      obtain ⟨f13_, h14_⟩ := guardP_elim h12_
      obtain rfl := Option.some.inj h14_
      exact ⟨step_pc 3000 (bT 1 []) [iD v0, iD v1, iD r2] [c_d b1_, c_f f3_, c_f f5_, c_f f7_, c_f f9_, c_f f13_] [k_c f11_] _ rfl (by kernel_rfl) (by kernel_rfl) (by kernel_rfl) (by kernel_rfl) (by kernel_rfl) (by kernel_rfl), trivial⟩
    have h2_ := (if_neg b1_).symm.trans h0
    obtain rfl := Option.some.inj h2_
    exact ⟨step_pc 3000 (bF 1 []) [] [c_n b1_] [] _ rfl (by kernel_rfl) (by kernel_rfl) (by kernel_rfl) (by kernel_rfl) (by kernel_rfl) (by kernel_rfl), by kernel_rfl, by kernel_rfl⟩
  | .next 1 ds, t_, h => by
    have h_ : law6_L12_S1 re fa fb fc fd k c st kb cb kd cd x0 x1 x2 x3 x4 x5 x6 x7 x8 x9 x10 x11 x12 x13 x14 x15 x16 x17 x18 x19 x20 x21 x22 x23 ds = some t_ := h
    clear h
    unfold law6_L12_S1 at h_
    obtain ⟨s10, e0, h0⟩ := pullD_elim h_
    clear h_
    obtain rfl := tup_inj e0
    by_cases b1_ : s10 < (kb : Int)
    · have h2_ := (if_pos b1_).symm.trans h0
      obtain ⟨f3_, h4_⟩ := guardP_elim h2_
      obtain ⟨v0, f5_, h6_⟩ := pullD_elim h4_
      replace f5_ := readD_elim f5_
      obtain ⟨f7_, h8_⟩ := guardP_elim h6_
      obtain ⟨v1, f9_, h10_⟩ := pullD_elim h8_
      replace f9_ := readD_elim f9_
      obtain ⟨r2, f11_, h12_⟩ := pullD_elim h10_
      replace f11_ := m_32_ok f11_
      obtain rfl := Option.some.inj h12_
      exact ⟨step_pc 3000 (bT 1 []) [iD v0, iD v1, iD r2] [c_d b1_, c_f f3_, c_f f5_, c_f f7_, c_f f9_, ⟨fact (0 < 0 + 1 ∧ (0 + 1) * 8 ≤ 140737488355328 ∧ 0 + 1 ≤ 4611686018427387904), true, fact_mk (by decide)⟩] [k_c f11_] _ rfl (by kernel_rfl) (by kernel_rfl) (by kernel_rfl) (by kernel_rfl) (by kernel_rfl) (by kernel_rfl), trivial⟩
    have h2_ := (if_neg b1_).symm.trans h0
    obtain rfl := Option.some.inj h2_
    exact ⟨step_pc 3000 (bF 1 []) [] [c_n b1_] [] _ rfl (by kernel_rfl) (by kernel_rfl) (by kernel_rfl) (by kernel_rfl) (by kernel_rfl) (by kernel_rfl), by kernel_rfl, by kernel_rfl⟩
  | .next (_ + 2) _, _, h => by cases h
  | .out _ _, _, h => by cases h
theorem law6_L12_go (re fa fb fc fd : Int) (k : Nat) (c : List D) (st : Int) (kb : Nat) (cb : List D) (kd : Nat) (cd : List D) (x0 : Bool) (x1 : Bool) (x2 : Int) (x3 : Int) (x4 : Int) (x5 : Int) (x6 : Int) (x7 : Int) (x8 : Nat) (x9 : List D) (x10 : Int) (x11 : Nat) (x12 : List D) (x13 : Int) (x14 : Int) (x15 : Int) (x16 : Int) (x17 : Int) (x18 : Int) (x19 : Int) (x20 : Int) (x21 : Int) (x22 : Int) (x23 : Int) {q : Nat} {ds : List D} {j : Nat} {es : List D} (h : runR (law6_L12_S re fa fb fc fd k c st kb cb kd cd x0 x1 x2 x3 x4 x5 x6 x7 x8 x9 x10 x11 x12 x13 x14 x15 x16 x17 x18 x19 x20 x21 x22 x23) (.next q ds) = some (.out j es)) : Runs (ctx [6] law6_sp) Tabs law6_L12_A (stateOf (law6_L12_gs re fa fb fc fd k c st kb cb kd cd x0 x1 x2 x3 x4 x5 x6 x7 x8 x9 x10 x11 x12 x13 x14 x15 x16 x17 x18 x19 x20 x21 x22 x23 (.next q ds))) (stateOf (law6_L12_gs re fa fb fc fd k c st kb cb kd cd x0 x1 x2 x3 x4 x5 x6 x7 x8 x9 x10 x11 x12 x13 x14 x15 x16 x17 x18 x19 x20 x21 x22 x23 (.out j es))) (law6_L12_ax (.out j es)) ∧ (nxtOf (law6_L12_gs re fa fb fc fd k c st kb cb kd cd x0 x1 x2 x3 x4 x5 x6 x7 x8 x9 x10 x11 x12 x13 x14 x15 x16 x17 x18 x19 x20 x21 x22 x23 (.out j es)), lowGS (law6_L12_gs re fa fb fc fd k c st kb cb kd cd x0 x1 x2 x3 x4 x5 x6 x7 x8 x9 x10 x11 x12 x13 x14 x15 x16 x17 x18 x19 x20 x21 x22 x23 (.out j es))) = (law6_L12_A.nx, law6_L12_A.low) :=
  runs_of' (good true _ _) law6_L12_ok (ax := law6_L12_ax) (fun _ _ => rfl) (fun _ _ => axOf_end _) (law6_L12_S_ok re fa fb fc fd k c st kb cb kd cd x0 x1 x2 x3 x4 x5 x6 x7 x8 x9 x10 x11 x12 x13 x14 x15 x16 x17 x18 x19 x20 x21 x22 x23) h
theorem law6_L12_in0 (re fa fb fc fd : Int) (k : Nat) (c : List D) (st : Int) (kb : Nat) (cb : List D) (kd : Nat) (cd : List D) (x0 : Bool) (x1 : Bool) (x2 : Int) (x3 : Int) (x4 : Int) (x5 : Int) (x6 : Int) (x7 : Int) (x8 : Nat) (x9 : List D) (x10 : Int) (x11 : Nat) (x12 : List D) (x13 : Int) (x14 : Int) (x15 : Int) (x16 : Int) (x17 : Int) (x18 : Int) (x19 : Int) (x20 : Int) (x21 : Int) (x22 : Int) (x23 : Int) {es : List D} (h : runR (law6_L12_S re fa fb fc fd k c st kb cb kd cd x0 x1 x2 x3 x4 x5 x6 x7 x8 x9 x10 x11 x12 x13 x14 x15 x16 x17 x18 x19 x20 x21 x22 x23) (.next 1 [.one (.tuple #[]), iD ((0 : Int))]) = some (.out 0 es)) : LoopC (loopAt Try.prog 6 0) (law6_L12_E re fa fb fc fd k c st kb cb kd cd x0 x1 x2 x3 x4 x5 x6 x7 x8 x9 x10 x11 x12 x13 x14 x15 x16 x17 x18 x19 x20 x21 x22 x23) 8 noFrame law6_x12_0 es :=
  have r := law6_L12_go re fa fb fc fd k c st kb cb kd cd x0 x1 x2 x3 x4 x5 x6 x7 x8 x9 x10 x11 x12 x13 x14 x15 x16 x17 x18 x19 x20 x21 x22 x23 h
  loopin_as rfl (loop_in (l := law6_L12_A) (E := (law6_L12_E re fa fb fc fd k c st kb cb kd cd x0 x1 x2 x3 x4 x5 x6 x7 x8 x9 x10 x11 x12 x13 x14 x15 x16 x17 x18 x19 x20 x21 x22 x23)) (S := stateOf (law6_L12_gs re fa fb fc fd k c st kb cb kd cd x0 x1 x2 x3 x4 x5 x6 x7 x8 x9 x10 x11 x12 x13 x14 x15 x16 x17 x18 x19 x20 x21 x22 x23 (.next 1 [.one (.tuple #[]), iD ((0 : Int))]))) (ns := nsOf (law6_L12_gs re fa fb fc fd k c st kb cb kd cd x0 x1 x2 x3 x4 x5 x6 x7 x8 x9 x10 x11 x12 x13 x14 x15 x16 x17 x18 x19 x20 x21 x22 x23 (.next 1 [.one (.tuple #[]), iD ((0 : Int))]))) law6_L12_ok r.1 r.2 (by kernel_rfl) (by kernel_rfl) (by kernel_rfl) (by kernel_rfl))
theorem law6_L12_in1 (re fa fb fc fd : Int) (k : Nat) (c : List D) (st : Int) (kb : Nat) (cb : List D) (kd : Nat) (cd : List D) (x0 : Bool) (x1 : Bool) (x2 : Int) (x3 : Int) (x4 : Int) (x5 : Int) (x6 : Int) (x7 : Int) (x8 : Nat) (x9 : List D) (x10 : Int) (x11 : Nat) (x12 : List D) (x13 : Int) (x14 : Int) (x15 : Int) (x16 : Int) (x17 : Int) (x18 : Int) (x19 : Int) (x20 : Int) (x21 : Int) (x22 : Int) (x23 : Int) {es : List D} (h : runR (law6_L12_S re fa fb fc fd k c st kb cb kd cd x0 x1 x2 x3 x4 x5 x6 x7 x8 x9 x10 x11 x12 x13 x14 x15 x16 x17 x18 x19 x20 x21 x22 x23) (.next 1 [.one (.tuple #[]), iD ((0 : Int))]) = some (.out 1 es)) : LoopC (loopAt Try.prog 6 0) (law6_L12_E re fa fb fc fd k c st kb cb kd cd x0 x1 x2 x3 x4 x5 x6 x7 x8 x9 x10 x11 x12 x13 x14 x15 x16 x17 x18 x19 x20 x21 x22 x23) 8 noFrame law6_x12_1 es :=
  have r := law6_L12_go re fa fb fc fd k c st kb cb kd cd x0 x1 x2 x3 x4 x5 x6 x7 x8 x9 x10 x11 x12 x13 x14 x15 x16 x17 x18 x19 x20 x21 x22 x23 h
  loopin_as rfl (loop_in (l := law6_L12_A) (E := (law6_L12_E re fa fb fc fd k c st kb cb kd cd x0 x1 x2 x3 x4 x5 x6 x7 x8 x9 x10 x11 x12 x13 x14 x15 x16 x17 x18 x19 x20 x21 x22 x23)) (S := stateOf (law6_L12_gs re fa fb fc fd k c st kb cb kd cd x0 x1 x2 x3 x4 x5 x6 x7 x8 x9 x10 x11 x12 x13 x14 x15 x16 x17 x18 x19 x20 x21 x22 x23 (.next 1 [.one (.tuple #[]), iD ((0 : Int))]))) (ns := nsOf (law6_L12_gs re fa fb fc fd k c st kb cb kd cd x0 x1 x2 x3 x4 x5 x6 x7 x8 x9 x10 x11 x12 x13 x14 x15 x16 x17 x18 x19 x20 x21 x22 x23 (.next 1 [.one (.tuple #[]), iD ((0 : Int))]))) law6_L12_ok r.1 r.2 (by kernel_rfl) (by kernel_rfl) (by kernel_rfl) (by kernel_rfl))
def law6_M (re fa fb fc fd : Int) (k : Nat) (c : List D) (st : Int) (kb : Nat) (cb : List D) (kd : Nat) (cd : List D) : Option D := pullD (α := Bool) (m_9 []) (fun d => ((D.vb d))) (fun r0 => .one (.bool r0)) fun r0 => ((if r0 = false then some (.one (.bool false)) else pullD (α := Bool) (m_11 [.agg [iD re, iD fa, iD fb, iD fc, iD fd, .list k c]]) (fun d => ((D.vb d))) (fun r1 => .one (.bool r1)) fun r1 => ((if r1 = false then some (.one (.bool true)) else pullD (α := Int) (m_17 [.agg [iD re, iD fa, iD fb, iD fc, iD fd, .list k c], .agg [iD st, .list kb cb]]) (fun d => ((D.vi d))) (fun r2 => iD r2) fun r2 => ((if r2 ≠ (0 : Int) then some (.one (.bool true)) else (if (kd : Int) < (kb : Int) then some (.one (.bool true)) else (if (kd : Int) > (70 : Int) then some (.one (.bool true)) else pullD (α := Int × Int × Int × Int × Int × Nat × (List D)) (m_13 [.agg [iD re, iD fa, iD fb, iD fc, iD fd, .list k c]]) (fun d => ((D.vi (D.at d 0)), (D.vi (D.at d 1)), (D.vi (D.at d 2)), (D.vi (D.at d 3)), (D.vi (D.at d 4)), (D.ln (D.at d 5)), (D.lc (D.at d 5)))) (fun (r3, r4, r5, r6, r7, k8, c9) => .agg [iD r3, iD r4, iD r5, iD r6, iD r7, .list k8 c9]) fun (r3, r4, r5, r6, r7, k8, c9) => (pullD (α := Int × Nat × (List D)) (m_14 [.agg [iD st, .list kb cb]]) (fun d => ((D.vi (D.at d 0)), (D.ln (D.at d 1)), (D.lc (D.at d 1)))) (fun (r10, k11, c12) => .agg [iD r10, .list k11 c12]) fun (r10, k11, c12) => (pullD (α := Int × Int × Int × Int × Int × Int × Int × Int × Int × Int) (m_15 [.agg [iD r3, iD r4, iD r5, iD r6, iD r7, .list k8 c9], .agg [iD r10, .list k11 c12]]) (fun d => ((D.vi (D.at (D.at d 0) 0)), (D.vi (D.at (D.at d 0) 1)), (D.vi (D.at (D.at d 0) 2)), (D.vi (D.at (D.at d 0) 3)), (D.vi (D.at (D.at d 0) 4)), (D.vi (D.at (D.at d 0) 5)), (D.vi (D.at (D.at d 0) 6)), (D.vi (D.at (D.at d 0) 7)), (D.vi (D.at (D.at d 0) 8)), (D.vi (D.at d 1)))) (fun (r13, r14, r15, r16, r17, r18, r19, r20, r21, r22) => .tup [(shNL6_0 r13 r14 r15 r16 r17 r18 r19 r20 r21), iD r22]) fun (r13, r14, r15, r16, r17, r18, r19, r20, r21, r22) => ((if r22 ≠ (0 : Int) then (if r22 = (21 : Int) then some (.one (.bool (r13 == (0 : Int) && (r14 == (0 : Int) && (r15 == (0 : Int) && true) && (r16 == (0 : Int) && (r17 == (0 : Int) && true) && (r18 == (0 : Int) && (r19 == (0 : Int) && true) && (r20 == (0 : Int) && (r21 == (0 : Int) && true) && true))))))) else (if r22 = (12 : Int) then some (.one (.bool (r13 == (0 : Int) && (r14 == (0 : Int) && (r15 == (0 : Int) && true) && (r16 == (0 : Int) && (r17 == (0 : Int) && true) && (r18 == (0 : Int) && (r19 == (0 : Int) && true) && (r20 == (0 : Int) && (r21 == (0 : Int) && true) && true))))))) else some (.one (.bool false)))) else pullD (α := Int) (m_31 [(shNL6_0 r13 r14 r15 r16 r17 r18 r19 r20 r21)]) (fun d => ((D.vi d))) (fun r23 => iD r23) fun r23 => ((if r23 ≠ (0 : Int) then some (.one (.bool false)) else (if r13 ≥ (kb : Int) then some (.one (.bool false)) else bindL (runR (law6_L12_S re fa fb fc fd k c st kb cb kd cd r0 r1 r2 r3 r4 r5 r6 r7 k8 c9 r10 k11 c12 r13 r14 r15 r16 r17 r18 r19 r20 r21 r22 r23) (.next 1 [.one (.tuple #[]), iD ((0 : Int))])) fun j ds => (if j = 0 then pullD (α := Nat × (List D)) (some (.tup ds)) (fun d => ((D.ln (D.at d 0)), (D.lc (D.at d 0)))) (fun (k24, c25) => .tup [.list k24 c25]) fun (k24, c25) => (guardP ((0 : Int) ≤ (0 : Int) ∧ Int.toNat (0 : Int) < k24) (pullD (α := Int) (readD c25 (0 + Int.toNat (0 : Int) * 1) 1 false) (fun d => ((D.vi d))) (fun v26 => iD v26) fun v26 => (bindL (runR (law6_L17_S re fa fb fc fd k c st kb cb kd cd r0 r1 r2 r3 r4 r5 r6 r7 k8 c9 r10 k11 c12 r13 r14 r15 r16 r17 r18 r19 r20 r21 r22 r23 k24 c25 v26) (.next 0 [iD v26, iD ((0 : Int))])) fun j ds => (if j = 0 then pullD (α := Int) (some (.tup ds)) (fun d => ((D.vi (D.at d 0)))) (fun l27 => .tup [iD l27]) fun l27 => (bindL (runR (law6_L22_S re fa fb fc fd k c st kb cb kd cd r0 r1 r2 r3 r4 r5 r6 r7 k8 c9 r10 k11 c12 r13 r14 r15 r16 r17 r18 r19 r20 r21 r22 r23 k24 c25 v26 l27) (.next 0 [iD ((-1 : Int)), iD ((-1 : Int)), iD ((-1 : Int)), iD ((IntKind.i64.wrap ((k24 : Int) - (1 : Int))))])) fun j ds => (if j = 0 then pullD (α := Int × Int × Int) (some (.tup ds)) (fun d => ((D.vi (D.at d 0)), (D.vi (D.at d 1)), (D.vi (D.at d 2)))) (fun (l28, l29, l30) => .tup [iD l28, iD l29, iD l30]) fun (l28, l29, l30) => (pullD (α := Bool) (m_33 [iD l27, iD r14, iD r15]) (fun d => ((D.vb d))) (fun r31 => .one (.bool r31)) fun r31 => ((if (r31) = true then pullD (α := Bool) (m_33 [iD l28, iD r16, iD r17]) (fun d => ((D.vb d))) (fun r32 => .one (.bool r32)) fun r32 => ((if (r32) = true then pullD (α := Bool) (m_33 [iD l29, iD r18, iD r19]) (fun d => ((D.vb d))) (fun r33 => .one (.bool r33)) fun r33 => ((if (r33) = true then pullD (α := Bool) (m_33 [iD l30, iD r20, iD r21]) (fun d => ((D.vb d))) (fun r34 => .one (.bool r34)) fun r34 => (some (.one (.bool r34))) else some (.one (.bool false)))) else some (.one (.bool false)))) else some (.one (.bool false))))) else none)) else none)))) else none))))))))))))))))
theorem law6_M_ok (re fa fb fc fd : Int) (k : Nat) (c : List D) (st : Int) (kb : Nat) (cb : List D) (kd : Nat) (cd : List D) {r : D} (h : law6_M re fa fb fc fd k c st kb cb kd cd = some r) : Con 6 [.agg [iD re, iD fa, iD fb, iD fc, iD fd, .list k c], .agg [iD st, .list kb cb], .list kd cd] r := by
  unfold law6_M at h
  obtain ⟨r0, f1_, h2_⟩ := pullD_elim h
  replace f1_ := m_9_ok f1_
  by_cases b3_ : r0 = false
  · have h4_ := (if_pos b3_).symm.trans h2_
    obtain rfl := Option.some.inj h4_
    exact con_pc (op := true) (I := [6]) (sp := law6_sp) 3000 (bT 1 []) [.one (.bool r0)] [c_no b3_] [k_c f1_] (by kernel_rfl)
  have h4_ := (if_neg b3_).symm.trans h2_
  have b5_ : r0 = true := by first | exact b3_ | simpa using b3_
  obtain ⟨r1, f6_, h7_⟩ := pullD_elim h4_
  replace f6_ := m_11_ok f6_
  by_cases b8_ : r1 = false
  · have h9_ := (if_pos b8_).symm.trans h7_
    obtain rfl := Option.some.inj h9_
    exact con_pc (op := true) (I := [6]) (sp := law6_sp) 3000 (bF 1 (bT 17 [])) [.one (.bool r0), .one (.bool r1)] [c_nn b5_, c_no b8_, c_no b8_, c_no b8_, c_no b8_, c_no b8_, c_T, c_T, c_T, c_T, c_T, c_T, c_T, c_T, c_T, c_T, c_T, c_T] [k_c f1_, k_c f6_] (by kernel_rfl)
  have h9_ := (if_neg b8_).symm.trans h7_
  have b10_ : r1 = true := by first | exact b8_ | simpa using b8_
  obtain ⟨r2, f11_, h12_⟩ := pullD_elim h9_
  replace f11_ := m_17_ok f11_
  by_cases b13_ : r2 ≠ (0 : Int)
  · have h14_ := (if_pos b13_).symm.trans h12_
    obtain rfl := Option.some.inj h14_
    exact con_pc (op := true) (I := [6]) (sp := law6_sp) 3000 (bF 6 (bT 12 [])) [.one (.bool r0), .one (.bool r1), iD r2] [c_nn b5_, c_nn b10_, c_nn b10_, c_nn b10_, c_nn b10_, c_nn b10_, c_b b13_, c_b b13_, c_b b13_, c_b b13_, c_b b13_, c_b b13_, c_b b13_, c_T, c_T, c_T, c_T, c_T] [k_c f1_, k_c f6_, k_c f11_] (by kernel_rfl)
  have h14_ := (if_neg b13_).symm.trans h12_
  have b15_ : r2 = (0 : Int) := by first | exact b13_ | simpa using b13_
  by_cases b16_ : (kd : Int) < (kb : Int)
  · have h17_ := (if_pos b16_).symm.trans h14_
    obtain rfl := Option.some.inj h17_
    exact con_pc (op := true) (I := [6]) (sp := law6_sp) 3000 (bF 13 (bT 5 [])) [.one (.bool r0), .one (.bool r1), iD r2] [c_nn b5_, c_nn b10_, c_nn b10_, c_nn b10_, c_nn b10_, c_nn b10_, c_bn b15_, c_bn b15_, c_bn b15_, c_bn b15_, c_bn b15_, c_bn b15_, c_bn b15_, c_d b16_, c_d b16_, c_d b16_, c_d b16_, c_T] [k_c f1_, k_c f6_, k_c f11_] (by kernel_rfl)
  have h17_ := (if_neg b16_).symm.trans h14_
  by_cases b18_ : (kd : Int) > (70 : Int)
  · have h19_ := (if_pos b18_).symm.trans h17_
    obtain rfl := Option.some.inj h19_
    exact con_pc (op := true) (I := [6]) (sp := law6_sp) 3000 (bF 17 (bT 1 [])) [.one (.bool r0), .one (.bool r1), iD r2] [c_nn b5_, c_nn b10_, c_nn b10_, c_nn b10_, c_nn b10_, c_nn b10_, c_bn b15_, c_bn b15_, c_bn b15_, c_bn b15_, c_bn b15_, c_bn b15_, c_bn b15_, c_n b16_, c_n b16_, c_n b16_, c_n b16_, c_d b18_] [k_c f1_, k_c f6_, k_c f11_] (by kernel_rfl)
  have h19_ := (if_neg b18_).symm.trans h17_
  obtain ⟨⟨r3, r4, r5, r6, r7, k8, c9⟩, f20_, h21_⟩ := pullD_elim h19_
  replace f20_ := m_13_ok f20_
  obtain ⟨⟨r10, k11, c12⟩, f22_, h23_⟩ := pullD_elim h21_
  replace f22_ := m_14_ok f22_
  obtain ⟨⟨r13, r14, r15, r16, r17, r18, r19, r20, r21, r22⟩, f24_, h25_⟩ := pullD_elim h23_
  replace f24_ := m_15_ok f24_
  by_cases b26_ : r22 ≠ (0 : Int)
  · have h27_ := (if_pos b26_).symm.trans h25_
    by_cases b28_ : r22 = (21 : Int)
    · have h29_ := (if_pos b28_).symm.trans h27_
      obtain rfl := Option.some.inj h29_
      exact con_pc (op := true) (I := [6]) (sp := law6_sp) 3000 (bF 18 (bT 8 [])) [.one (.bool r0), .one (.bool r1), iD r2, .agg [iD r3, iD r4, iD r5, iD r6, iD r7, .list k8 c9], .agg [iD r10, .list k11 c12], .tup [(shNL6_0 r13 r14 r15 r16 r17 r18 r19 r20 r21), iD r22]] [c_nn b5_, c_nn b10_, c_nn b10_, c_nn b10_, c_nn b10_, c_nn b10_, c_bn b15_, c_bn b15_, c_bn b15_, c_bn b15_, c_bn b15_, c_bn b15_, c_bn b15_, c_n b16_, c_n b16_, c_n b16_, c_n b16_, c_n b18_, c_b b26_, c_e b28_, c_e b28_, c_e b28_, c_T, c_T, c_T, c_T] [k_c f1_, k_c f6_, k_c f11_, k_c f20_, k_c f22_, k_c f24_] (by kernel_rfl)
    have h29_ := (if_neg b28_).symm.trans h27_
    have b30_ : r22 ≠ (21 : Int) := by first | exact b28_ | simpa using b28_
    by_cases b31_ : r22 = (12 : Int)
    · have h32_ := (if_pos b31_).symm.trans h29_
      obtain rfl := Option.some.inj h32_
      exact con_pc (op := true) (I := [6]) (sp := law6_sp) 3000 (bF 18 (bT 1 (bF 3 (bT 4 [])))) [.one (.bool r0), .one (.bool r1), iD r2, .agg [iD r3, iD r4, iD r5, iD r6, iD r7, .list k8 c9], .agg [iD r10, .list k11 c12], .tup [(shNL6_0 r13 r14 r15 r16 r17 r18 r19 r20 r21), iD r22]] [c_nn b5_, c_nn b10_, c_nn b10_, c_nn b10_, c_nn b10_, c_nn b10_, c_bn b15_, c_bn b15_, c_bn b15_, c_bn b15_, c_bn b15_, c_bn b15_, c_bn b15_, c_n b16_, c_n b16_, c_n b16_, c_n b16_, c_n b18_, c_b b26_, c_en b30_, c_en b30_, c_en b30_, c_e b31_, c_e b31_, c_e b31_, c_e b31_] [k_c f1_, k_c f6_, k_c f11_, k_c f20_, k_c f22_, k_c f24_] (by kernel_rfl)
    have h32_ := (if_neg b31_).symm.trans h29_
    have b33_ : r22 ≠ (12 : Int) := by first | exact b31_ | simpa using b31_
    obtain rfl := Option.some.inj h32_
    exact con_pc (op := true) (I := [6]) (sp := law6_sp) 3000 (bF 18 (bT 1 (bF 7 []))) [.one (.bool r0), .one (.bool r1), iD r2, .agg [iD r3, iD r4, iD r5, iD r6, iD r7, .list k8 c9], .agg [iD r10, .list k11 c12], .tup [(shNL6_0 r13 r14 r15 r16 r17 r18 r19 r20 r21), iD r22]] [c_nn b5_, c_nn b10_, c_nn b10_, c_nn b10_, c_nn b10_, c_nn b10_, c_bn b15_, c_bn b15_, c_bn b15_, c_bn b15_, c_bn b15_, c_bn b15_, c_bn b15_, c_n b16_, c_n b16_, c_n b16_, c_n b16_, c_n b18_, c_b b26_, c_en b30_, c_en b30_, c_en b30_, c_en b33_, c_en b33_, c_en b33_, c_en b33_] [k_c f1_, k_c f6_, k_c f11_, k_c f20_, k_c f22_, k_c f24_] (by kernel_rfl)
  have h27_ := (if_neg b26_).symm.trans h25_
  have b34_ : r22 = (0 : Int) := by first | exact b26_ | simpa using b26_
  obtain ⟨r23, f35_, h36_⟩ := pullD_elim h27_
  replace f35_ := m_31_ok f35_
  by_cases b37_ : r23 ≠ (0 : Int)
  · have h38_ := (if_pos b37_).symm.trans h36_
    obtain rfl := Option.some.inj h38_
    exact con_pc (op := true) (I := [6]) (sp := law6_sp) 3000 (bF 19 (bT 8 [])) [.one (.bool r0), .one (.bool r1), iD r2, .agg [iD r3, iD r4, iD r5, iD r6, iD r7, .list k8 c9], .agg [iD r10, .list k11 c12], .tup [(shNL6_0 r13 r14 r15 r16 r17 r18 r19 r20 r21), iD r22], iD r23] [c_nn b5_, c_nn b10_, c_nn b10_, c_nn b10_, c_nn b10_, c_nn b10_, c_bn b15_, c_bn b15_, c_bn b15_, c_bn b15_, c_bn b15_, c_bn b15_, c_bn b15_, c_n b16_, c_n b16_, c_n b16_, c_n b16_, c_n b18_, c_bn b34_, c_b b37_, c_b b37_, c_b b37_, c_b b37_, c_b b37_, c_b b37_, c_b b37_, c_T] [k_c f1_, k_c f6_, k_c f11_, k_c f20_, k_c f22_, k_c f24_, k_c f35_] (by kernel_rfl)
  have h38_ := (if_neg b37_).symm.trans h36_
  have b39_ : r23 = (0 : Int) := by first | exact b37_ | simpa using b37_
  by_cases b40_ : r13 ≥ (kb : Int)
  · have h41_ := (if_pos b40_).symm.trans h38_
    obtain rfl := Option.some.inj h41_
    exact con_pc (op := true) (I := [6]) (sp := law6_sp) 3000 (bF 26 (bT 1 [])) [.one (.bool r0), .one (.bool r1), iD r2, .agg [iD r3, iD r4, iD r5, iD r6, iD r7, .list k8 c9], .agg [iD r10, .list k11 c12], .tup [(shNL6_0 r13 r14 r15 r16 r17 r18 r19 r20 r21), iD r22], iD r23] [c_nn b5_, c_nn b10_, c_nn b10_, c_nn b10_, c_nn b10_, c_nn b10_, c_bn b15_, c_bn b15_, c_bn b15_, c_bn b15_, c_bn b15_, c_bn b15_, c_bn b15_, c_n b16_, c_n b16_, c_n b16_, c_n b16_, c_n b18_, c_bn b34_, c_bn b39_, c_bn b39_, c_bn b39_, c_bn b39_, c_bn b39_, c_bn b39_, c_bn b39_, c_d b40_] [k_c f1_, k_c f6_, k_c f11_, k_c f20_, k_c f22_, k_c f24_, k_c f35_] (by kernel_rfl)
  have h41_ := (if_neg b40_).symm.trans h38_
  obtain ⟨j, ds, e42_, h43_⟩ := bindL_elim h41_
  by_cases j44_ : j = 0
  · have h47_ := (if_pos j44_).symm.trans h43_
    clear h43_
    subst j44_
    obtain ⟨⟨k24, c25⟩, e45_, h48_⟩ := pullD_elim h47_
    clear h47_
    obtain rfl := tup_inj e45_
    have k46_ := law6_L12_in0 re fa fb fc fd k c st kb cb kd cd r0 r1 r2 r3 r4 r5 r6 r7 k8 c9 r10 k11 c12 r13 r14 r15 r16 r17 r18 r19 r20 r21 r22 r23 e42_
    obtain ⟨f49_, h50_⟩ := guardP_elim h48_
    obtain ⟨v26, f51_, h52_⟩ := pullD_elim h50_
    replace f51_ := readD_elim f51_
    obtain ⟨j, ds, e53_, h54_⟩ := bindL_elim h52_
    by_cases j55_ : j = 0
    · have h58_ := (if_pos j55_).symm.trans h54_
      clear h54_
      subst j55_
      obtain ⟨l27, e56_, h59_⟩ := pullD_elim h58_
      clear h58_
      obtain rfl := tup_inj e56_
      have k57_ := law6_L17_in0 re fa fb fc fd k c st kb cb kd cd r0 r1 r2 r3 r4 r5 r6 r7 k8 c9 r10 k11 c12 r13 r14 r15 r16 r17 r18 r19 r20 r21 r22 r23 k24 c25 v26 e53_
      obtain ⟨j, ds, e60_, h61_⟩ := bindL_elim h59_
      by_cases j62_ : j = 0
      · have h65_ := (if_pos j62_).symm.trans h61_
        clear h61_
        subst j62_
        obtain ⟨⟨l28, l29, l30⟩, e63_, h66_⟩ := pullD_elim h65_
        clear h65_
        obtain rfl := tup_inj e63_
        have k64_ := law6_L22_in0 re fa fb fc fd k c st kb cb kd cd r0 r1 r2 r3 r4 r5 r6 r7 k8 c9 r10 k11 c12 r13 r14 r15 r16 r17 r18 r19 r20 r21 r22 r23 k24 c25 v26 l27 e60_
        obtain ⟨r31, f67_, h68_⟩ := pullD_elim h66_
        replace f67_ := m_33_ok f67_
        by_cases b69_ : (r31) = true
        · have h70_ := (if_pos b69_).symm.trans h68_
          obtain ⟨r32, f71_, h72_⟩ := pullD_elim h70_
          replace f71_ := m_33_ok f71_
          by_cases b73_ : (r32) = true
          · have h74_ := (if_pos b73_).symm.trans h72_
            obtain ⟨r33, f75_, h76_⟩ := pullD_elim h74_
            replace f75_ := m_33_ok f75_
            by_cases b77_ : (r33) = true
            · have h78_ := (if_pos b77_).symm.trans h76_
              obtain ⟨r34, f79_, h80_⟩ := pullD_elim h78_
              replace f79_ := m_33_ok f79_
              obtain rfl := Option.some.inj h80_
              exact con_pc (op := true) (I := [6]) (sp := law6_sp) 3000 (bF 27 (bT 27 [])) [.one (.bool r0), .one (.bool r1), iD r2, .agg [iD r3, iD r4, iD r5, iD r6, iD r7, .list k8 c9], .agg [iD r10, .list k11 c12], .tup [(shNL6_0 r13 r14 r15 r16 r17 r18 r19 r20 r21), iD r22], iD r23, .tup [iD (Int.ofNat 0), .list k24 c25], iD v26, .tup [iD (Int.ofNat 0), iD l27], .tup [iD (Int.ofNat 0), iD l28, iD l29, iD l30], .one (.bool r31), .one (.bool r32), .one (.bool r33), .one (.bool r34)] [c_nn b5_, c_nn b10_, c_nn b10_, c_nn b10_, c_nn b10_, c_nn b10_, c_bn b15_, c_bn b15_, c_bn b15_, c_bn b15_, c_bn b15_, c_bn b15_, c_bn b15_, c_n b16_, c_n b16_, c_n b16_, c_n b16_, c_n b18_, c_bn b34_, c_bn b39_, c_bn b39_, c_bn b39_, c_bn b39_, c_bn b39_, c_bn b39_, c_bn b39_, c_n b40_, c_f f49_, c_f f51_, c_q b69_, c_q b69_, c_q b69_, c_q b69_, c_q b69_, c_q b69_, c_q b69_, c_q b69_, c_q b69_, c_q b73_, c_q b73_, c_q b73_, c_q b73_, c_q b73_, c_q b73_, c_q b73_, c_q b73_, c_q b73_, c_q b77_, c_q b77_, c_q b77_, c_q b77_, c_q b77_, c_q b77_, c_q b77_, c_q b77_, c_q b77_] [k_c f1_, k_c f6_, k_c f11_, k_c f20_, k_c f22_, k_c f24_, k_c f35_, k_l k46_ (bT 27 []) [.tup [iD (Int.ofNat 0), .list k24 c25], iD v26, .tup [iD (Int.ofNat 0), iD l27], .tup [iD (Int.ofNat 0), iD l28, iD l29, iD l30], .one (.bool r31), .one (.bool r32), .one (.bool r33), .one (.bool r34)] [iD v26, .tup [iD (Int.ofNat 0), iD l27], .tup [iD (Int.ofNat 0), iD l28, iD l29, iD l30], .one (.bool r31), .one (.bool r32), .one (.bool r33), .one (.bool r34)], k_l k57_ (bT 27 []) [.tup [iD (Int.ofNat 0), iD l27], .tup [iD (Int.ofNat 0), iD l28, iD l29, iD l30], .one (.bool r31), .one (.bool r32), .one (.bool r33), .one (.bool r34)] [.tup [iD (Int.ofNat 0), iD l28, iD l29, iD l30], .one (.bool r31), .one (.bool r32), .one (.bool r33), .one (.bool r34)], k_l k64_ (bT 27 []) [.tup [iD (Int.ofNat 0), iD l28, iD l29, iD l30], .one (.bool r31), .one (.bool r32), .one (.bool r33), .one (.bool r34)] [.one (.bool r31), .one (.bool r32), .one (.bool r33), .one (.bool r34)], k_c f67_, k_c f71_, k_c f75_, k_c f79_] (by kernel_rfl)
            have h78_ := (if_neg b77_).symm.trans h76_
            have b81_ : (r33) = false := by first | exact b77_ | simpa using b77_
            obtain rfl := Option.some.inj h78_
            exact con_pc (op := true) (I := [6]) (sp := law6_sp) 3000 (bF 27 (bT 18 (bF 9 []))) [.one (.bool r0), .one (.bool r1), iD r2, .agg [iD r3, iD r4, iD r5, iD r6, iD r7, .list k8 c9], .agg [iD r10, .list k11 c12], .tup [(shNL6_0 r13 r14 r15 r16 r17 r18 r19 r20 r21), iD r22], iD r23, .tup [iD (Int.ofNat 0), .list k24 c25], iD v26, .tup [iD (Int.ofNat 0), iD l27], .tup [iD (Int.ofNat 0), iD l28, iD l29, iD l30], .one (.bool r31), .one (.bool r32), .one (.bool r33)] [c_nn b5_, c_nn b10_, c_nn b10_, c_nn b10_, c_nn b10_, c_nn b10_, c_bn b15_, c_bn b15_, c_bn b15_, c_bn b15_, c_bn b15_, c_bn b15_, c_bn b15_, c_n b16_, c_n b16_, c_n b16_, c_n b16_, c_n b18_, c_bn b34_, c_bn b39_, c_bn b39_, c_bn b39_, c_bn b39_, c_bn b39_, c_bn b39_, c_bn b39_, c_n b40_, c_f f49_, c_f f51_, c_q b69_, c_q b69_, c_q b69_, c_q b69_, c_q b69_, c_q b69_, c_q b69_, c_q b69_, c_q b69_, c_q b73_, c_q b73_, c_q b73_, c_q b73_, c_q b73_, c_q b73_, c_q b73_, c_q b73_, c_q b73_, c_q b81_, c_q b81_, c_q b81_, c_q b81_, c_q b81_, c_q b81_, c_q b81_, c_q b81_, c_q b81_] [k_c f1_, k_c f6_, k_c f11_, k_c f20_, k_c f22_, k_c f24_, k_c f35_, k_l k46_ (bT 18 (bF 9 [])) [.tup [iD (Int.ofNat 0), .list k24 c25], iD v26, .tup [iD (Int.ofNat 0), iD l27], .tup [iD (Int.ofNat 0), iD l28, iD l29, iD l30], .one (.bool r31), .one (.bool r32), .one (.bool r33)] [iD v26, .tup [iD (Int.ofNat 0), iD l27], .tup [iD (Int.ofNat 0), iD l28, iD l29, iD l30], .one (.bool r31), .one (.bool r32), .one (.bool r33)], k_l k57_ (bT 18 (bF 9 [])) [.tup [iD (Int.ofNat 0), iD l27], .tup [iD (Int.ofNat 0), iD l28, iD l29, iD l30], .one (.bool r31), .one (.bool r32), .one (.bool r33)] [.tup [iD (Int.ofNat 0), iD l28, iD l29, iD l30], .one (.bool r31), .one (.bool r32), .one (.bool r33)], k_l k64_ (bT 18 (bF 9 [])) [.tup [iD (Int.ofNat 0), iD l28, iD l29, iD l30], .one (.bool r31), .one (.bool r32), .one (.bool r33)] [.one (.bool r31), .one (.bool r32), .one (.bool r33)], k_c f67_, k_c f71_, k_c f75_] (by kernel_rfl)
          have h74_ := (if_neg b73_).symm.trans h72_
          have b82_ : (r32) = false := by first | exact b73_ | simpa using b73_
          obtain rfl := Option.some.inj h74_
          exact con_pc (op := true) (I := [6]) (sp := law6_sp) 3000 (bF 27 (bT 9 (bF 18 []))) [.one (.bool r0), .one (.bool r1), iD r2, .agg [iD r3, iD r4, iD r5, iD r6, iD r7, .list k8 c9], .agg [iD r10, .list k11 c12], .tup [(shNL6_0 r13 r14 r15 r16 r17 r18 r19 r20 r21), iD r22], iD r23, .tup [iD (Int.ofNat 0), .list k24 c25], iD v26, .tup [iD (Int.ofNat 0), iD l27], .tup [iD (Int.ofNat 0), iD l28, iD l29, iD l30], .one (.bool r31), .one (.bool r32)] [c_nn b5_, c_nn b10_, c_nn b10_, c_nn b10_, c_nn b10_, c_nn b10_, c_bn b15_, c_bn b15_, c_bn b15_, c_bn b15_, c_bn b15_, c_bn b15_, c_bn b15_, c_n b16_, c_n b16_, c_n b16_, c_n b16_, c_n b18_, c_bn b34_, c_bn b39_, c_bn b39_, c_bn b39_, c_bn b39_, c_bn b39_, c_bn b39_, c_bn b39_, c_n b40_, c_f f49_, c_f f51_, c_q b69_, c_q b69_, c_q b69_, c_q b69_, c_q b69_, c_q b69_, c_q b69_, c_q b69_, c_q b69_, c_q b82_, c_q b82_, c_q b82_, c_q b82_, c_q b82_, c_q b82_, c_q b82_, c_q b82_, c_q b82_, c_F, c_F, c_F, c_F, c_F, c_F, c_F, c_F, c_F] [k_c f1_, k_c f6_, k_c f11_, k_c f20_, k_c f22_, k_c f24_, k_c f35_, k_l k46_ (bT 9 (bF 18 [])) [.tup [iD (Int.ofNat 0), .list k24 c25], iD v26, .tup [iD (Int.ofNat 0), iD l27], .tup [iD (Int.ofNat 0), iD l28, iD l29, iD l30], .one (.bool r31), .one (.bool r32)] [iD v26, .tup [iD (Int.ofNat 0), iD l27], .tup [iD (Int.ofNat 0), iD l28, iD l29, iD l30], .one (.bool r31), .one (.bool r32)], k_l k57_ (bT 9 (bF 18 [])) [.tup [iD (Int.ofNat 0), iD l27], .tup [iD (Int.ofNat 0), iD l28, iD l29, iD l30], .one (.bool r31), .one (.bool r32)] [.tup [iD (Int.ofNat 0), iD l28, iD l29, iD l30], .one (.bool r31), .one (.bool r32)], k_l k64_ (bT 9 (bF 18 [])) [.tup [iD (Int.ofNat 0), iD l28, iD l29, iD l30], .one (.bool r31), .one (.bool r32)] [.one (.bool r31), .one (.bool r32)], k_c f67_, k_c f71_] (by kernel_rfl)
        have h70_ := (if_neg b69_).symm.trans h68_
        have b83_ : (r31) = false := by first | exact b69_ | simpa using b69_
        obtain rfl := Option.some.inj h70_
        exact con_pc (op := true) (I := [6]) (sp := law6_sp) 3000 (bF 54 []) [.one (.bool r0), .one (.bool r1), iD r2, .agg [iD r3, iD r4, iD r5, iD r6, iD r7, .list k8 c9], .agg [iD r10, .list k11 c12], .tup [(shNL6_0 r13 r14 r15 r16 r17 r18 r19 r20 r21), iD r22], iD r23, .tup [iD (Int.ofNat 0), .list k24 c25], iD v26, .tup [iD (Int.ofNat 0), iD l27], .tup [iD (Int.ofNat 0), iD l28, iD l29, iD l30], .one (.bool r31)] [c_nn b5_, c_nn b10_, c_nn b10_, c_nn b10_, c_nn b10_, c_nn b10_, c_bn b15_, c_bn b15_, c_bn b15_, c_bn b15_, c_bn b15_, c_bn b15_, c_bn b15_, c_n b16_, c_n b16_, c_n b16_, c_n b16_, c_n b18_, c_bn b34_, c_bn b39_, c_bn b39_, c_bn b39_, c_bn b39_, c_bn b39_, c_bn b39_, c_bn b39_, c_n b40_, c_f f49_, c_f f51_, c_q b83_, c_q b83_, c_q b83_, c_q b83_, c_q b83_, c_q b83_, c_q b83_, c_q b83_, c_q b83_, c_F, c_F, c_F, c_F, c_F, c_F, c_F, c_F, c_F, c_F, c_F, c_F, c_F, c_F, c_F, c_F, c_F, c_F] [k_c f1_, k_c f6_, k_c f11_, k_c f20_, k_c f22_, k_c f24_, k_c f35_, k_l k46_ (bF 27 []) [.tup [iD (Int.ofNat 0), .list k24 c25], iD v26, .tup [iD (Int.ofNat 0), iD l27], .tup [iD (Int.ofNat 0), iD l28, iD l29, iD l30], .one (.bool r31)] [iD v26, .tup [iD (Int.ofNat 0), iD l27], .tup [iD (Int.ofNat 0), iD l28, iD l29, iD l30], .one (.bool r31)], k_l k57_ (bF 27 []) [.tup [iD (Int.ofNat 0), iD l27], .tup [iD (Int.ofNat 0), iD l28, iD l29, iD l30], .one (.bool r31)] [.tup [iD (Int.ofNat 0), iD l28, iD l29, iD l30], .one (.bool r31)], k_l k64_ (bF 27 []) [.tup [iD (Int.ofNat 0), iD l28, iD l29, iD l30], .one (.bool r31)] [.one (.bool r31)], k_c f67_] (by kernel_rfl)
      have h84_ := (if_neg j62_).symm.trans h61_
      clear h61_
      cases h84_
    have h85_ := (if_neg j55_).symm.trans h54_
    clear h54_
    cases h85_
  have h86_ := (if_neg j44_).symm.trans h43_
  clear h43_
  cases h86_
def m_6 (ds : List D) : Option D := pullD (α := Int × Int × Int × Int × Int × Nat × (List D) × Int × Nat × (List D) × Nat × (List D)) (some (.tup ds)) (fun d => ((D.vi (D.at (D.at d 0) 0)), (D.vi (D.at (D.at d 0) 1)), (D.vi (D.at (D.at d 0) 2)), (D.vi (D.at (D.at d 0) 3)), (D.vi (D.at (D.at d 0) 4)), (D.ln (D.at (D.at d 0) 5)), (D.lc (D.at (D.at d 0) 5)), (D.vi (D.at (D.at d 1) 0)), (D.ln (D.at (D.at d 1) 1)), (D.lc (D.at (D.at d 1) 1)), (D.ln (D.at d 2)), (D.lc (D.at d 2)))) (fun (re, fa, fb, fc, fd, k, c, st, kb, cb, kd, cd) => .tup [.agg [iD re, iD fa, iD fb, iD fc, iD fd, .list k c], .agg [iD st, .list kb cb], .list kd cd]) fun (re, fa, fb, fc, fd, k, c, st, kb, cb, kd, cd) => law6_M re fa fb fc fd k c st kb cb kd cd
theorem m_6_ok {ds : List D} {r : D} (h : m_6 ds = some r) : Con 6 ds r := by
  unfold m_6 at h
  obtain ⟨⟨re, fa, fb, fc, fd, k, c, st, kb, cb, kd, cd⟩, e0, h0⟩ := pullD_elim h
  obtain rfl := tup_inj e0
  exact law6_M_ok re fa fb fc fd k c st kb cb kd cd h0
theorem m_6_eq (re fa fb fc fd : Int) (k : Nat) (c : List D) (st : Int) (kb : Nat) (cb : List D) (kd : Nat) (cd : List D) : m_6 [.agg [iD re, iD fa, iD fb, iD fc, iD fd, .list k c], .agg [iD st, .list kb cb], .list kd cd] = law6_M re fa fb fc fd k c st kb cb kd cd := pullD_some (re, fa, fb, fc, fd, k, c, st, kb, cb, kd, cd) rfl rfl
end
end Go.Proofs.Ytmohaohdbklkeaa
/- Rules, records: what is checked. -/
namespace Go.Proofs.Ytmohaohdbklkeaa
open Go.Ev Go.RowKit
set_option maxRecDepth 100000
def firstV : List Int → Int
  | [] => 0
  | x :: l => if x = 0 then firstV l else x
theorem first_go (k : Nat) : ∀ (pre l : List Int), k = (pre ++ l).length → k ≤ 1000000 → (∀ x ∈ pre, x = 0) →
    runR (firstOf_L2_S k ((pre ++ l).map iD)) (.next 0 [iD (pre.length : Int)]) = some (if firstV l = 0 then .out 0 [] else .out 1 [iD (firstV l)]) := by
  intro pre l
  induction l generalizing pre with
  | nil =>
    intro hk _ _
    rw [List.append_nil] at hk ⊢
    refine runR_exit ?_
    show firstOf_L2_S0 _ _ _ = _
    unfold firstOf_L2_S0
    rw [pullD_some (pre.length : Int) (by rfl) (by rfl), if_neg (by omega)]
  | cons x l ih =>
    intro hk hs hp
    have hg : (pre ++ x :: l)[pre.length]? = some x := by simp
    have hlt : pre.length < k := by rw [hk, List.length_append, List.length_cons]; omega
    by_cases hx : x = 0
    · have st : firstOf_L2_S k ((pre ++ x :: l).map iD) (.next 0 [iD (pre.length : Int)]) = some (.next 0 [iD (((pre ++ [x]).length : Nat) : Int)]) := by
        show firstOf_L2_S0 _ _ _ = _
        unfold firstOf_L2_S0
        rw [pullD_some (pre.length : Int) (by rfl) (by rfl), if_pos (by omega), guardP_pos (by omega), readW hg, pullI, if_neg (by simp [hx]), wrapJ _ (by omega) (by omega), List.length_append, List.length_singleton]
        rfl
      have h2 := ih (pre ++ [x]) (by rw [hk]; simp) hs (fun y hy => by
        rcases List.mem_append.1 hy with h | h
        · exact hp y h
        · simp at h; rw [h]; exact hx)
      rw [List.append_assoc, List.singleton_append] at h2
      rw [runR_next st, h2]
      simp [firstV, hx]
    · refine (runR_exit (j := 1) (es := [iD x]) ?_).trans ?_
      · show firstOf_L2_S0 _ _ _ = _
        unfold firstOf_L2_S0
        rw [pullD_some (pre.length : Int) (by rfl) (by rfl), if_pos (by omega), guardP_pos (by omega), readW hg, pullI, if_pos hx]
      · simp [firstV, hx]
theorem firstOf_eq (l : List Int) (hl : l.length ≤ 1000000) : m_45 [lD l] = some (iD (firstV l)) := by
  have h := first_go l.length [] l rfl hl (fun _ h => by cases h)
  simp only [List.nil_append, List.length_nil] at h
  have h : runR (firstOf_L2_S l.length (l.map iD)) (.next 0 [.one (.int .i64 0)]) = some (if firstV l = 0 then .out 0 [] else .out 1 [iD (firstV l)]) := h
  rw [m_45_eq]
  unfold firstOf_M
  by_cases h0 : firstV l = 0
  · rw [if_pos h0] at h
    rw [bindL_some h, if_pos rfl, pullD_some () (by rfl) (by rfl), h0]
  · rw [if_neg h0] at h
    rw [bindL_some h, if_neg (by decide), if_pos rfl, pullD_some (firstV l) (by rfl) (by rfl)]
theorem f2 (x y : Int) : m_45 [.list 2 [iD x, iD y]] = some (iD (firstV [x, y])) := firstOf_eq [x, y] (by simp)
theorem f3 (x y z : Int) : m_45 [.list 3 [iD x, iD y, iD z]] = some (iD (firstV [x, y, z])) := firstOf_eq [x, y, z] (by simp)
theorem within_eq (n lo hi : Int) : m_33 [iD n, iD lo, iD hi] = some (.one (.bool (decide (lo ≤ n ∧ n ≤ hi)))) := by
  rw [m_33_eq]
  unfold within_M
  by_cases h : lo ≤ n
  · rw [if_pos h]; simp [h]
  · rw [if_neg h]; simp [h]
def stepE (n : Int) : Int := if 1 ≤ n ∧ n ≤ 1000000 then 0 else 2
theorem chkStep_eq (n : Int) : m_74 [iD n] = some (iD (stepE n)) := by
  rw [m_74_eq]
  unfold chkStep_M stepE
  repeat' split
  all_goals first | rfl | (exfalso; omega)
/-- Where the division with a remainder ends. -/
def eu (a b : Int) : Int := if h : b = 0 then a else eu b (a.tmod b)
termination_by b.natAbs
decreasing_by
  rw [Int.natAbs_tmod]
  exact Nat.mod_lt _ (by omega)
theorem eu_zero (a : Int) : eu a 0 = a := by unfold eu; simp
theorem eu_step {a b : Int} (h : b ≠ 0) : eu a b = eu b (a.tmod b) := by
  conv => lhs; unfold eu
  rw [dif_neg h]
theorem eu_gcd (a b : Int) : (eu a b).natAbs = Int.gcd a b := by
  generalize hk : b.natAbs = k
  induction k using Nat.strongRecOn generalizing a b with
  | ind k ih =>
    by_cases h : b = 0
    · subst h; rw [eu_zero]; simp
    · have hlt : (a.tmod b).natAbs < b.natAbs := by rw [Int.natAbs_tmod]; exact Nat.mod_lt _ (by omega)
      rw [eu_step h, ih _ (by omega) b (a.tmod b) rfl]
      show Nat.gcd b.natAbs (a.tmod b).natAbs = Nat.gcd a.natAbs b.natAbs
      rw [Int.natAbs_tmod, Nat.gcd_comm a.natAbs, Nat.gcd_rec b.natAbs a.natAbs, Nat.gcd_comm]
def absW (r : Int) : Int := if IntKind.i64.wrap (0 - r) > r then IntKind.i64.wrap (0 - r) else r
theorem absW_eq {r : Int} (h : r.natAbs < 9223372036854775808) : absW r = (r.natAbs : Int) := by
  unfold absW
  rw [wrapJ _ (by omega) (by omega)]
  split <;> omega
theorem div_go (x y : Int) : ∀ (k : Nat) (a b : Int), b.natAbs ≤ k → runR (divisor_L1_S x y) (.next 0 [iD a, iD b]) = some (.out 0 [iD (eu a b)]) := by
  intro k
  induction k with
  | zero =>
    intro a b h
    have hb : b = 0 := by omega
    subst hb
    refine runR_exit ?_
    show divisor_L1_S0 x y _ = _
    unfold divisor_L1_S0
    rw [pullD_some (a, (0 : Int)) (by rfl) (by rfl)]
    dsimp only
    rw [if_neg (by simp), eu_zero]
  | succ k ih =>
    intro a b h
    by_cases hb : b = 0
    · exact ih a b (by omega)
    · have st : divisor_L1_S x y (.next 0 [iD a, iD b]) = some (.next 0 [iD b, iD (a.tmod b)]) := by
        show divisor_L1_S0 x y _ = _
        unfold divisor_L1_S0
        rw [pullD_some (a, b) (by rfl) (by rfl)]
        dsimp only
        rw [if_pos hb]
      have hlt : (a.tmod b).natAbs < b.natAbs := by rw [Int.natAbs_tmod]; exact Nat.mod_lt _ (by omega)
      rw [runR_next st, ih b (a.tmod b) (by omega), ← eu_step hb]
theorem divisor_eq (a b : Int) : m_102 [iD a, iD b] = some (iD (absW (eu a b))) := by
  rw [m_102_eq]
  unfold divisor_M
  rw [div_go a b b.natAbs a b (Nat.le_refl _), bindL_some rfl, if_pos rfl, pullD_some (eu a b) (by rfl) (by rfl)]
  rfl
theorem gcd_loop (x y : Int) : ∀ (k : Nat) (a b : Int), b.natAbs ≤ k → runR (gcd_L1_S x y) (.next 0 [iD a, iD b]) = some (.out 0 [iD (eu a b)]) := by
  intro k
  induction k with
  | zero =>
    intro a b h
    have hb : b = 0 := by omega
    subst hb
    refine runR_exit ?_
    show gcd_L1_S0 x y _ = _
    unfold gcd_L1_S0
    rw [pullD_some (a, (0 : Int)) (by rfl) (by rfl)]
    dsimp only
    rw [if_neg (by simp), eu_zero]
  | succ k ih =>
    intro a b h
    by_cases hb : b = 0
    · exact ih a b (by omega)
    · have st : gcd_L1_S x y (.next 0 [iD a, iD b]) = some (.next 0 [iD b, iD (a.tmod b)]) := by
        show gcd_L1_S0 x y _ = _
        unfold gcd_L1_S0
        rw [pullD_some (a, b) (by rfl) (by rfl)]
        dsimp only
        rw [if_pos hb]
      have hlt : (a.tmod b).natAbs < b.natAbs := by rw [Int.natAbs_tmod]; exact Nat.mod_lt _ (by omega)
      rw [runR_next st, ih b (a.tmod b) (by omega), ← eu_step hb]
theorem gcdI_eq (a b : Int) : m_100 [iD a, iD b] = some (iD (absW (eu a b))) := by
  rw [m_100_eq]
  unfold gcd_M
  rw [gcd_loop a b b.natAbs a b (Nat.le_refl _), bindL_some rfl, if_pos rfl, pullD_some (eu a b) (by rfl) (by rfl), m_103_eq]
  unfold size_M
  rw [pullI]
  rfl
theorem absW_gcd {a b : Int} (h : 0 < b) (h2 : b < 9223372036854775808) : absW (eu a b) = ((Int.gcd a b : Nat) : Int) := by
  have h1 : Int.gcd a b ≤ b.natAbs := Nat.le_of_dvd (by omega) (Int.gcd_dvd_natAbs_right a b)
  rw [absW_eq (by rw [eu_gcd]; omega), eu_gcd]
theorem gv2 (x : Int) : firstV [2, x] = 2 := rfl
theorem gv0 (x : Int) : firstV [0, x] = x := by
  unfold firstV firstV
  simp only [if_true]
  split
  · rename_i h; rw [h]; rfl
  · rfl
theorem gv9 (x : Int) : firstV [9, x] = 9 := rfl
theorem n2 : ((2 : Int) ≠ 0) = True := by decide
theorem n9 : ((9 : Int) ≠ 0) = True := by decide
theorem n0 : ((0 : Int) ≠ 0) = False := by decide
def lowB (n d : Int) : Bool := decide (0 < d ∧ absW (eu n d) = 1)
theorem isLowest_eq (n d : Int) : m_97 [.agg [iD n, iD d]] = some (.one (.bool (lowB n d))) := by
  rw [m_97_eq]
  unfold isLowest_M lowB
  by_cases h : d > 0
  · rw [if_pos h, gcdI_eq, pullI]
    congr 3
    rw [Bool.eq_iff_iff]; simp [show 0 < d from h]
  · rw [if_neg h]
    congr 3
    rw [Bool.eq_iff_iff]; simp [show ¬ 0 < d from h]
theorem isReduced_eq (n d : Int) : m_94 [.agg [iD n, iD d]] = some (.one (.bool (lowB n d))) := by
  rw [m_94_eq]
  unfold isReduced_M lowB
  by_cases h : d > 0
  · rw [if_pos h, divisor_eq, pullI]
    congr 3
    rw [Bool.eq_iff_iff]; simp [show 0 < d from h]
  · rw [if_neg h]
    congr 3
    rw [Bool.eq_iff_iff]; simp [show ¬ 0 < d from h]
theorem lowB_pos {n d : Int} (h : lowB n d = true) : 0 < d := by
  unfold lowB at h
  simp only [decide_eq_true_eq] at h
  exact h.1
def facR (x : Q4) : Prop := 1 ≤ x.a ∧ x.a ≤ 1000 ∧ 1 ≤ x.b ∧ x.b ≤ 1000 ∧ 1 ≤ x.c ∧ x.c ≤ 1000 ∧ 1 ≤ x.d ∧ x.d ≤ 1000
instance (x : Q4) : Decidable (facR x) := by unfold facR; infer_instance
/-- Why a factor is refused. -/
def facE (x : Q4) : Int := if lowB x.a x.b = true ∧ lowB x.c x.d = true then (if facR x then (if x.a * x.d ≤ x.c * x.b then 0 else 9) else 2) else 3
theorem mulK {x y : Int} (h1 : 1 ≤ x) (h2 : x ≤ 1000) (h3 : 1 ≤ y) (h4 : y ≤ 1000) : 0 ≤ x * y ∧ x * y ≤ 1000000 := ⟨Int.mul_nonneg (by omega) (by omega), by
  have := Int.mul_le_mul h2 h4 (by omega) (by omega : (0 : Int) ≤ 1000)
  omega⟩
theorem isLess_eq {n d m e : Int} (h1 : 0 ≤ n * e) (h2 : n * e ≤ 1000000) (h3 : 0 ≤ m * d) (h4 : m * d ≤ 1000000) : m_95 [.agg [iD n, iD d], .agg [iD m, iD e]] = some (.one (.bool (decide (n * e < m * d)))) := by
  rw [m_95_eq]
  unfold isLess_M
  rw [wrapJ (n * e) (by omega) (by omega), wrapJ (m * d) (by omega) (by omega)]
theorem cmpI_eq {n d m e : Int} (h1 : 0 ≤ n * e) (h2 : n * e ≤ 1000000) (h3 : 0 ≤ m * d) (h4 : m * d ≤ 1000000) : m_39 [.agg [iD n, iD d], .agg [iD m, iD e]] = some (iD (if n * e < m * d then -1 else if n * e > m * d then 1 else 0)) := by
  rw [m_39_eq]
  unfold cmpI_M
  rw [wrapJ (n * e) (by omega) (by omega), wrapJ (m * d) (by omega) (by omega)]
  repeat' split
  all_goals rfl
theorem facE3 {x : Q4} (h : lowB x.a x.b = false ∨ lowB x.c x.d = false) : facE x = 3 := by
  unfold facE
  rw [if_neg]
  rcases h with h | h <;> simp [h]
theorem facE2 {x : Q4} (h1 : lowB x.a x.b = true) (h2 : lowB x.c x.d = true) (h : ¬ facR x) : facE x = 2 := by
  unfold facE
  rw [if_pos ⟨h1, h2⟩, if_neg h]
theorem chkFactor_eq (p q u v : Int) : m_73 [.agg [iD p, iD q, iD u, iD v]] = some (iD (facE ⟨p, q, u, v⟩)) := by
  rw [m_73_eq]
  unfold chkFactor_M
  rw [isReduced_eq, pullB, isReduced_eq, pullB]
  cases b1 : lowB p q with
  | false => rw [if_pos rfl, facE3 (.inl b1)]
  | true =>
    rw [if_neg (by decide)]
    cases b2 : lowB u v with
    | false => rw [if_pos rfl, facE3 (.inr b2)]
    | true =>
      rw [if_neg (by decide)]
      by_cases g : facR ⟨p, q, u, v⟩
      · have g' := g
        unfold facR at g'
        simp only at g'
        obtain ⟨k1, k2⟩ := mulK (x := p) (y := v) (by omega) (by omega) (by omega) (by omega)
        obtain ⟨k3, k4⟩ := mulK (x := u) (y := q) (by omega) (by omega) (by omega) (by omega)
        rw [if_neg (by omega), if_neg (by omega), if_neg (by omega), if_neg (by omega), if_neg (by omega), if_neg (by omega), if_neg (by omega), if_neg (by omega), isLess_eq k3 k4 k1 k2, pullB]
        have hE : facE ⟨p, q, u, v⟩ = if p * v ≤ u * q then 0 else 9 := by
          unfold facE
          rw [if_pos ⟨b1, b2⟩, if_pos g]
        rw [hE]
        by_cases o : p * v ≤ u * q
        · rw [if_pos o, if_neg (by simp; omega)]
        · rw [if_neg o, if_pos (by simp; omega)]
      · rw [facE2 b1 b2 g]
        unfold facR at g
        simp only at g
        by_cases q0 : p < 1
        · rw [if_pos q0]
        rw [if_neg q0]
        by_cases q1 : p > 1000
        · rw [if_pos q1]
        rw [if_neg q1]
        by_cases q2 : q < 1
        · rw [if_pos q2]
        rw [if_neg q2]
        by_cases q3 : q > 1000
        · rw [if_pos q3]
        rw [if_neg q3]
        by_cases q4 : u < 1
        · rw [if_pos q4]
        rw [if_neg q4]
        by_cases q5 : u > 1000
        · rw [if_pos q5]
        rw [if_neg q5]
        by_cases q6 : v < 1
        · rw [if_pos q6]
        rw [if_neg q6, if_pos (by omega)]
theorem facErr_eq (p q u v : Int) : m_83 [.agg [iD p, iD q, iD u, iD v]] = some (iD (facE ⟨p, q, u, v⟩)) := by
  rw [m_83_eq]
  unfold facErr_M
  rw [isLowest_eq, pullB, isLowest_eq, pullB, within_eq, pullB, within_eq, pullB]
  cases b1 : lowB p q with
  | false => rw [if_pos rfl, facE3 (.inl b1)]
  | true =>
    rw [if_neg (by decide)]
    cases b2 : lowB u v with
    | false => rw [if_pos rfl, facE3 (.inr b2)]
    | true =>
      have hq := lowB_pos b1
      have hv := lowB_pos b2
      rw [if_neg (by decide)]
      by_cases g : facR ⟨p, q, u, v⟩
      · have g' := g
        unfold facR at g'
        simp only at g'
        obtain ⟨k1, k2⟩ := mulK (x := p) (y := v) (by omega) (by omega) (by omega) (by omega)
        obtain ⟨k3, k4⟩ := mulK (x := u) (y := q) (by omega) (by omega) (by omega) (by omega)
        rw [if_neg (by simp; omega), if_neg (by simp; omega), if_neg (by omega), if_neg (by omega), cmpI_eq k1 k2 k3 k4, pullI]
        have hE : facE ⟨p, q, u, v⟩ = if p * v ≤ u * q then 0 else 9 := by
          unfold facE
          rw [if_pos ⟨b1, b2⟩, if_pos g]
        rw [hE]
        by_cases o : p * v ≤ u * q
        · rw [if_pos (c := p * v ≤ u * q) o, if_neg]
          split
          · decide
          · rw [if_neg (by omega)]; decide
        · rw [if_neg (c := p * v ≤ u * q) o, if_neg (c := p * v < u * q) (by omega), if_pos (c := p * v > u * q) (by omega), if_pos (by decide)]
      · rw [facE2 b1 b2 g]
        unfold facR at g
        simp only at g
        by_cases q0 : 1 ≤ p ∧ p ≤ 1000
        · rw [if_neg (by simp; omega)]
          by_cases q1 : 1 ≤ u ∧ u ≤ 1000
          · rw [if_neg (by simp; omega)]
            by_cases q2 : q > 1000
            · rw [if_pos q2]
            rw [if_neg q2, if_pos (by omega)]
          · rw [if_pos (by simp; omega)]
        · rw [if_pos (by simp; omega)]
def fstE (e : Nat → Int) : Nat → Nat → Int
  | 0, _ => 0
  | m + 1, i => if e i = 0 then fstE e m (i + 1) else e i
theorem scanF {n : Nat} {e : Nat → Int} {S : Rd → Option Rd} (hs : ∀ i, i < n → S (.next 0 [iD (i : Int)]) = if e i = 0 then some (.next 0 [iD ((i + 1 : Nat) : Int)]) else some (.out 1 [iD (e i)])) (he : S (.next 0 [iD (n : Int)]) = some (.out 0 [])) :
    ∀ m i, i + m = n → runR S (.next 0 [iD (i : Int)]) = if fstE e m i = 0 then some (.out 0 []) else some (.out 1 [iD (fstE e m i)]) := by
  intro m
  induction m with
  | zero =>
    intro i hi
    have : i = n := by omega
    subst this
    rw [runR_exit he]; rfl
  | succ m ih =>
    intro i hi
    have h1 := hs i (by omega)
    unfold fstE
    by_cases h0 : e i = 0
    · rw [if_pos h0] at h1
      rw [runR_next h1, ih (i + 1) (by omega), if_pos h0]
    · rw [if_neg h0] at h1
      rw [runR_exit h1, if_neg h0, if_neg h0]
theorem fstE_zero {e : Nat → Int} : ∀ {m i : Nat}, fstE e m i = 0 → ∀ j, i ≤ j → j < i + m → e j = 0
  | 0, i, _, j, h1, h2 => by omega
  | m + 1, i, h, j, h1, h2 => by
    unfold fstE at h
    split at h
    · rename_i h0
      rcases Nat.lt_or_ge i j with h3 | h3
      · exact fstE_zero h j (by omega) (by omega)
      · have : j = i := by omega
        subst this; exact h0
    · contradiction
abbrev ruD (re : Int) (f : Q4) (l : List Q4) : D := .agg [iD re, iD f.a, iD f.b, iD f.c, iD f.d, lQ l]
abbrev chE (l : List Q4) : Int := fstE (fun i => facE (qAt l i)) l.length 0
/-- Why rules are refused. -/
def rulE (re : Int) (f : Q4) (l : List Q4) : Int := if 0 ≤ re ∧ re ≤ 100 then (if facE f = 0 then (if 4 < l.length then 8 else chE l) else facE f) else 2
theorem chkError_eq (n : Int) : m_69 [iD n] = some (iD (if 0 ≤ n ∧ n ≤ 100 then 0 else 2)) := by
  rw [m_69_eq]
  unfold chkError_M
  repeat' split
  all_goals first | rfl | (exfalso; omega)
theorem chkRules_eq (re : Int) (f : Q4) (l : List Q4) (hl : l.length ≤ 1000) : m_46 [ruD re f l] = some (iD (rulE re f l)) := by
  rw [m_46_eq]
  unfold chkRules_M rulE
  have h1 : m_73 [shNL1_0 f.a f.b f.c f.d] = _ := chkFactor_eq f.a f.b f.c f.d
  rw [chkError_eq, pullI, h1, pullI, f2, pullI]
  by_cases g : 0 ≤ re ∧ re ≤ 100
  · rw [if_pos g, gv0, if_pos g]
    by_cases g2 : facE f = 0
    · have g2' : facE ⟨f.a, f.b, f.c, f.d⟩ = 0 := g2
      rw [if_pos g2, if_neg (fun h => h g2')]
      by_cases g3 : 4 < l.length
      · rw [if_pos g3, if_pos (by omega)]
      · rw [if_neg g3, if_neg (by omega)]
        have h := fun x0 x1 x2 => scanF (n := l.length) (e := fun i => facE (qAt l i)) (S := chkRules_L7_S re f.a f.b f.c f.d l.length (cQ l) x0 x1 x2) (fun i hi => by
          rw [chkRules_L7_S_0]
          unfold chkRules_L7_S0
          rw [pullD_some (i : Int) (by rfl) (by rfl), if_pos (by omega), guardP_pos (by omega), show ((i : Int).toNat) = i from rfl, readQ hi, pullD_some ((qAt l i).a, (qAt l i).b, (qAt l i).c, (qAt l i).d) (by rfl) (by rfl)]
          dsimp only
          have h2 : m_73 [shNL1_0 (qAt l i).a (qAt l i).b (qAt l i).c (qAt l i).d] = _ := chkFactor_eq (qAt l i).a (qAt l i).b (qAt l i).c (qAt l i).d
          rw [h2, pullI, natI (by omega)]
          by_cases q : facE (qAt l i) = 0
          · rw [if_pos q, if_neg (fun h => h q)]
          · rw [if_neg q, if_pos q]) (by
          rw [chkRules_L7_S_0]
          unfold chkRules_L7_S0
          rw [pullD_some (l.length : Int) (by rfl) (by rfl), if_neg (by omega)]) l.length 0 (by omega)
        simp only [Int.natCast_zero] at h
        by_cases q : chE l = 0
        · rw [bindL_some ((h _ _ _).trans (if_pos q)), if_pos rfl, pullD_some () (by rfl) (by rfl), q]
        · rw [bindL_some ((h _ _ _).trans (if_neg q)), if_neg (by decide), if_pos rfl, pullD_some (chE l) (by rfl) (by rfl)]
    · have g2' : facE ⟨f.a, f.b, f.c, f.d⟩ ≠ 0 := g2
      rw [if_neg g2, if_pos g2']
  · rw [if_neg g, gv2, if_neg g, if_pos (by decide)]
theorem rulesErr_eq (re : Int) (f : Q4) (l : List Q4) (hl : l.length ≤ 1000) : m_53 [ruD re f l] = some (iD (rulE re f l)) := by
  rw [m_53_eq]
  unfold rulesErr_M rulE
  have h1 : m_83 [shNL1_0 f.a f.b f.c f.d] = _ := facErr_eq f.a f.b f.c f.d
  rw [within_eq, pullB, h1, pullI]
  by_cases g : 0 ≤ re ∧ re ≤ 100
  · rw [if_neg (by simp; omega), if_pos g]
    by_cases g2 : facE f = 0
    · have g2' : facE ⟨f.a, f.b, f.c, f.d⟩ = 0 := g2
      rw [if_pos g2, if_neg (fun h => h g2')]
      by_cases g3 : 4 < l.length
      · rw [if_pos g3, if_pos (by omega)]
      · rw [if_neg g3, if_neg (by omega)]
        have h := fun x0 x1 => scanF (n := l.length) (e := fun i => facE (qAt l i)) (S := rulesErr_L9_S re f.a f.b f.c f.d l.length (cQ l) x0 x1) (fun i hi => by
          rw [rulesErr_L9_S_0]
          unfold rulesErr_L9_S0
          rw [pullD_some (i : Int) (by rfl) (by rfl), if_pos (by omega), guardP_pos (by omega), show ((i : Int).toNat) = i from rfl, readQ hi, pullD_some ((qAt l i).a, (qAt l i).b, (qAt l i).c, (qAt l i).d) (by rfl) (by rfl)]
          dsimp only
          have h2 : m_83 [shNL1_0 (qAt l i).a (qAt l i).b (qAt l i).c (qAt l i).d] = _ := facErr_eq (qAt l i).a (qAt l i).b (qAt l i).c (qAt l i).d
          rw [h2, pullI, natI (by omega)]
          by_cases q : facE (qAt l i) = 0
          · rw [if_pos q, if_neg (fun h => h q)]
          · rw [if_neg q, if_pos q]) (by
          rw [rulesErr_L9_S_0]
          unfold rulesErr_L9_S0
          rw [pullD_some (l.length : Int) (by rfl) (by rfl), if_neg (by omega)]) l.length 0 (by omega)
        simp only [Int.natCast_zero] at h
        by_cases q : chE l = 0
        · rw [bindL_some ((h _ _).trans (if_pos q)), if_pos rfl, pullD_some () (by rfl) (by rfl), q]
        · rw [bindL_some ((h _ _).trans (if_neg q)), if_neg (by decide), if_pos rfl, pullD_some (chE l) (by rfl) (by rfl)]
    · have g2' : facE ⟨f.a, f.b, f.c, f.d⟩ ≠ 0 := g2
      rw [if_neg g2, if_pos g2']
  · rw [if_pos (by simp; omega), if_neg g]
theorem copyRules_eq (re : Int) (f : Q4) (l : List Q4) (hl : l.length ≤ 1000) : m_13 [ruD re f l] = some (ruD re f l) := by
  rw [m_13_eq]
  unfold copyRules_M
  rw [guardP_pos (by omega), guardP_pos (cQ_len l)]
abbrev reD (st : Int) (l : List Int) : D := .agg [iD st, lD l]
/-- Why a record is refused. -/
def recE (st : Int) (l : List Int) : Int := if 1 ≤ st ∧ st ≤ 1000000 then (if l.length < 3 then 10 else if 64 < l.length then 8 else if allIn (-4096) 4096 l = true then 0 else 2) else 2
theorem copyInts_eq (l : List Int) (hl : l.length ≤ 1000) : m_27 [lD l] = some (lD l) := by
  rw [m_27_eq]
  unfold copyInts_M
  rw [guardP_pos ⟨cells_int l, by omega, by omega, by omega⟩, guardP_pos (by simp), guardP_pos ⟨by simp, by omega⟩, Nat.zero_add]
theorem copyRecord_eq (st : Int) (l : List Int) (hl : l.length ≤ 1000) : m_14 [reD st l] = some (reD st l) := by
  rw [m_14_eq]
  unfold copyRecord_M
  rw [copyInts_eq l hl, pullD_some (l.length, l.map iD) (by rfl) (by rfl)]
theorem chkCount_eq (n : Nat) : m_75 [iD (n : Int)] = some (iD (if n < 3 then 10 else if 64 < n then 8 else 0)) := by
  rw [m_75_eq]
  unfold chkCount_M
  by_cases h1 : n < 3
  · rw [if_pos h1, if_pos (by omega)]
  rw [if_neg h1, if_neg (by omega)]
  by_cases h2 : 64 < n
  · rw [if_pos h2, if_pos (by omega)]
  · rw [if_neg h2, if_neg (by omega)]
theorem chkRecord_eq (st : Int) (l : List Int) (hl : l.length ≤ 1000) : m_47 [reD st l] = some (iD (recE st l)) := by
  rw [m_47_eq]
  unfold chkRecord_M recE
  rw [chkStep_eq, pullI, chkCount_eq, pullI, f2, pullI]
  unfold stepE
  by_cases g : 1 ≤ st ∧ st ≤ 1000000
  · rw [if_pos g, if_pos g, gv0]
    by_cases g1 : l.length < 3
    · rw [if_pos g1, if_pos g1, if_pos (by decide)]
    rw [if_neg g1, if_neg g1]
    by_cases g2 : 64 < l.length
    · rw [if_pos g2, if_pos g2, if_pos (by decide)]
    rw [if_neg g2, if_neg g2, if_neg (by decide)]
    have h := fun x0 x1 => scanIn l (-4096) 4096 (chkRecord_L101_2_S st l.length (l.map iD) x0 x1) (.out 1 [iD 2]) (fun _ _ e => by cases e) (fun i hi => by
      rw [chkRecord_L101_2_S_0]
      unfold chkRecord_L101_2_S0
      rw [pullD_some (i : Int) (by rfl) (by rfl), if_pos (by omega), guardP_pos (by omega), readA hi, pullD_some (at' l i) (by rfl) (by rfl), natI (by omega)]
      by_cases q : -4096 ≤ at' l i ∧ at' l i ≤ 4096
      · rw [if_neg (by omega), if_neg (by omega), if_pos q]
      · rw [if_neg q]
        by_cases q1 : at' l i < -4096
        · rw [if_pos q1]
        · rw [if_neg q1, if_pos (by omega)]) (by
      rw [chkRecord_L101_2_S_0]
      unfold chkRecord_L101_2_S0
      rw [pullD_some (l.length : Int) (by rfl) (by rfl), if_neg (by omega)])
    by_cases q : allIn (-4096) 4096 l = true
    · rw [if_pos q, bindL_some ((h _ _).trans (if_pos q)), if_pos rfl, pullD_some () (by rfl) (by rfl)]
    · rw [if_neg q, bindL_some ((h _ _).trans (if_neg q)), if_neg (by decide), if_pos rfl, pullD_some (2 : Int) (by rfl) (by rfl)]
  · rw [if_neg g, if_neg g, gv2, if_pos (by decide)]
theorem recErr_eq (st : Int) (l : List Int) (hl : l.length ≤ 1000) : m_41 [reD st l] = some (iD (recE st l)) := by
  rw [m_41_eq]
  unfold recErr_M recE
  rw [within_eq, pullB]
  by_cases g : 1 ≤ st ∧ st ≤ 1000000
  · rw [if_neg (by simp; omega), if_pos g]
    by_cases g1 : l.length < 3
    · rw [if_pos g1, if_pos (by omega)]
    rw [if_neg g1, if_neg (by omega)]
    by_cases g2 : 64 < l.length
    · rw [if_pos g2, if_pos (by omega)]
    rw [if_neg g2, if_neg (by omega)]
    have h := fun x0 => scanIn l (-4096) 4096 (recErr_L8_S st l.length (l.map iD) x0) (.out 1 [iD 2]) (fun _ _ e => by cases e) (fun i hi => by
      rw [recErr_L8_S_0]
      unfold recErr_L8_S0
      rw [pullD_some (i : Int) (by rfl) (by rfl), if_pos (by omega), guardP_pos (by omega), readA hi, pullD_some (at' l i) (by rfl) (by rfl), within_eq, pullB, natI (by omega)]
      by_cases q : -4096 ≤ at' l i ∧ at' l i ≤ 4096
      · rw [if_neg (by simp [q]), if_pos q]
      · rw [if_pos (by simpa using q), if_neg q]) (by
      rw [recErr_L8_S_0]
      unfold recErr_L8_S0
      rw [pullD_some (l.length : Int) (by rfl) (by rfl), if_neg (by omega)])
    by_cases q : allIn (-4096) 4096 l = true
    · rw [if_pos q, bindL_some ((h _).trans (if_pos q)), if_pos rfl, pullD_some () (by rfl) (by rfl)]
    · rw [if_neg q, bindL_some ((h _).trans (if_neg q)), if_neg (by decide), if_pos rfl, pullD_some (2 : Int) (by rfl) (by rfl)]
  · rw [if_pos (by simp; omega), if_neg g]
theorem few_eq (st : Int) (l : List Int) : m_10 [reD st l] = some (.one (.bool (decide ((l.length : Int) ≤ 70)))) := by
  rw [m_10_eq]
  rfl
theorem fewF_eq (re : Int) (f : Q4) (l : List Q4) : m_11 [ruD re f l] = some (.one (.bool (decide ((l.length : Int) ≤ 6)))) := by
  rw [m_11_eq]
  rfl
end Go.Proofs.Ytmohaohdbklkeaa
/- True samples, levels, halves. -/
namespace Go.Proofs.Ytmohaohdbklkeaa
open Go.Ev Go.RowKit
set_option maxRecDepth 100000
/-! ### The first place -/
def fidx (p : Nat → Bool) : Nat → Nat → Int
  | 0, _ => -1
  | m + 1, i => if p i = true then (i : Int) else fidx p m (i + 1)
theorem fidx_true {p : Nat → Bool} {m i : Nat} (h : p i = true) : fidx p (m + 1) i = i := by unfold fidx; rw [if_pos h]
theorem fidx_false {p : Nat → Bool} {m i : Nat} (h : p i = false) : fidx p (m + 1) i = fidx p m (i + 1) := by
  conv => lhs; unfold fidx
  rw [if_neg (by rw [h]; decide)]
theorem fidx_range (p : Nat → Bool) : ∀ m i, fidx p m i = -1 ∨ ((i : Int) ≤ fidx p m i ∧ fidx p m i < ((i + m : Nat) : Int) ∧ p (fidx p m i).toNat = true ∧ ∀ j, i ≤ j → (j : Int) < fidx p m i → p j = false)
  | 0, _ => .inl rfl
  | m + 1, i => by
    unfold fidx
    cases h : p i with
    | true =>
      rw [if_pos rfl]
      exact .inr ⟨by omega, by omega, h, fun j h1 h2 => by omega⟩
    | false =>
      rw [if_neg (by decide)]
      rcases fidx_range p m (i + 1) with e | ⟨a, b, c, d⟩
      · exact .inl e
      · refine .inr ⟨by omega, by omega, c, fun j h1 h2 => ?_⟩
        rcases Nat.lt_or_ge i j with h3 | h3
        · exact d j (by omega) h2
        · have : j = i := by omega
          subst this; exact h
theorem fidx_none {p : Nat → Bool} : ∀ {m i}, fidx p m i < 0 → ∀ j, i ≤ j → j < i + m → p j = false
  | 0, i, _, j, h1, h2 => by omega
  | m + 1, i, h, j, h1, h2 => by
    unfold fidx at h
    cases h0 : p i with
    | true => rw [h0, if_pos rfl] at h; omega
    | false =>
      rw [h0, if_neg (by decide)] at h
      rcases Nat.lt_or_ge i j with h3 | h3
      · exact fidx_none h j (by omega) (by omega)
      · have : j = i := by omega
        subst this; exact h0
theorem fidx_imp {p q : Nat → Bool} (hpq : ∀ i, q i = true → p i = true) {m i : Nat} (h : 0 ≤ fidx q m i) : 0 ≤ fidx p m i := by
  rcases fidx_range q m i with e | ⟨a, b, c, -⟩
  · omega
  · refine Classical.byContradiction fun hn => ?_
    have := fidx_none (p := p) (m := m) (i := i) (by omega) (fidx q m i).toNat (by omega) (by omega)
    rw [hpq _ c] at this
    cases this
theorem fidx_shift (p : Nat → Bool) (s : Nat) : ∀ m i, fidx (fun j => p (s + j)) m i = if fidx p m (s + i) < 0 then -1 else fidx p m (s + i) - s
  | 0, i => by unfold fidx; rw [if_pos (by decide)]
  | m + 1, i => by
    cases h : p (s + i) with
    | true => rw [fidx_true (p := fun j => p (s + j)) h, fidx_true h, if_neg (by omega)]; omega
    | false =>
      rw [fidx_false (p := fun j => p (s + j)) h, fidx_false h]
      exact fidx_shift p s m (i + 1)
theorem scanX {n : Nat} {p : Nat → Bool} {S : Rd → Option Rd} (hs : ∀ i, i < n → S (.next 0 [iD (i : Int)]) = if p i = true then some (.out 1 [iD (i : Int)]) else some (.next 0 [iD ((i + 1 : Nat) : Int)])) (he : S (.next 0 [iD (n : Int)]) = some (.out 0 [])) :
    ∀ m i, i + m = n → runR S (.next 0 [iD (i : Int)]) = if fidx p m i < 0 then some (.out 0 []) else some (.out 1 [iD (fidx p m i)]) := by
  intro m
  induction m with
  | zero =>
    intro i hi
    have : i = n := by omega
    subst this
    rw [runR_exit he]; rfl
  | succ m ih =>
    intro i hi
    have h1 := hs i (by omega)
    cases h0 : p i with
    | true =>
      rw [h0, if_pos rfl] at h1
      rw [runR_exit h1, fidx_true h0, if_neg (by omega)]
    | false =>
      rw [h0, if_neg (by decide)] at h1
      rw [runR_next h1, ih (i + 1) (by omega), fidx_false h0]
/-! ### Samples -/
/-- The peak's index so far. -/
def atT (y : List Int) : Nat → Nat
  | 0 => 0
  | i + 1 => if at' y i > at' y (atT y i) then i else atT y i
theorem atT_lt {y : List Int} (h0 : 0 < y.length) : ∀ {i}, i ≤ y.length → atT y i < y.length
  | 0, _ => h0
  | i + 1, h => by
    unfold atT
    split
    · omega
    · exact atT_lt h0 (by omega)
abbrev pk (y : List Int) : Nat := atT y y.length
def rng (e : Int) (y : List Int) : List (Int × Int) := y.map fun v => (v - e, v + e)
theorem rng_len (e : Int) (y : List Int) : (rng e y).length = y.length := by simp [rng]
theorem rng_at {e : Int} {y : List Int} {i : Nat} (h : i < y.length) : (rng e y)[i]? = some (at' y i - e, at' y i + e) := by
  unfold rng
  rw [List.getElem?_map, at_get h]; rfl
theorem rng_ta {e : Int} {y : List Int} {i : Nat} (h : i < y.length) : ta (rng e y) i = at' y i - e ∧ va (rng e y) i = at' y i + e := by
  unfold ta va
  rw [rng_at h]; exact ⟨rfl, rfl⟩
theorem rng_take {e : Int} {y : List Int} {i : Nat} (h : i < y.length) : (rng e y).take (i + 1) = (rng e y).take i ++ [(at' y i - e, at' y i + e)] := by
  rw [List.take_add_one, rng_at h]; rfl
/-- An error and samples that are valid. -/
structure RX (e : Int) (y : List Int) : Prop where
  e0 : 0 ≤ e
  e1 : e ≤ 100
  l3 : 3 ≤ y.length
  l64 : y.length ≤ 64
  bnd : ∀ i, i < y.length → -4096 ≤ at' y i ∧ at' y i ≤ 4096
theorem RX.of {re st : Int} {f : Q4} {l : List Q4} {y : List Int} (h1 : rulE re f l = 0) (h2 : recE st y = 0) : RX re y := by
  unfold rulE at h1
  unfold recE at h2
  split at h1
  · rename_i g
    split at h2
    · split at h2
      · cases h2
      · split at h2
        · cases h2
        · split at h2
          · rename_i g2 g3 g4
            exact ⟨g.1, g.2, by omega, by omega, fun i hi => allIn_at g4 hi⟩
          · cases h2
    · cases h2
  · cases h1
theorem around_eq {v e : Int} (h1 : -4096 ≤ v) (h2 : v ≤ 4096) (h3 : 0 ≤ e) (h4 : e ≤ 100) : m_77 [iD v, iD e] = some (.agg [iD (v - e), iD (v + e)]) := by
  rw [m_77_eq]
  unfold around_M
  rw [wrapJ (v - e) (by omega) (by omega), wrapJ (v + e) (by omega) (by omega)]
theorem sm_go (re fa fb fc fd : Int) (k : Nat) (c : List D) (st : Int) (y : List Int) (h : RX re y) : ∀ m i, i + m = y.length → 0 < i →
    runR (samples_L3_S re fa fb fc fd k c st y.length (y.map iD)) (.next 0 [iD (i : Int), lP ((rng re y).take i), iD ((atT y i : Nat) : Int)]) = some (.out 0 [lP (rng re y), iD ((pk y : Nat) : Int)]) := by
  obtain ⟨e0, e1, l3, l64, hb⟩ := h
  intro m
  induction m with
  | zero =>
    intro i hi _
    have : i = y.length := by omega
    subst this
    have e9 : (rng re y).take y.length = rng re y := by rw [← rng_len re y]; exact List.take_length
    refine runR_exit ?_
    rw [e9, samples_L3_S_0]
    unfold samples_L3_S0
    rw [pullD_some ((y.length : Int), (rng re y).length, cP (rng re y), ((pk y : Nat) : Int)) (by rfl) (by rfl)]
    dsimp only
    rw [if_neg (by omega)]
  | succ m ih =>
    intro i hi h0
    have hi' : i < y.length := by omega
    have ha := atT_lt (y := y) (by omega) (i := i) (by omega)
    obtain ⟨b1, b2⟩ := hb i hi'
    have hlen : ((rng re y).take i).length = i := by rw [List.length_take, rng_len]; omega
    have st : samples_L3_S re fa fb fc fd k c st y.length (y.map iD) (.next 0 [iD (i : Int), lP ((rng re y).take i), iD ((atT y i : Nat) : Int)]) = some (.next 0 [iD ((i + 1 : Nat) : Int), lP ((rng re y).take (i + 1)), iD ((atT y (i + 1) : Nat) : Int)]) := by
      rw [samples_L3_S_0]
      unfold samples_L3_S0
      rw [pullD_some ((i : Int), ((rng re y).take i).length, cP ((rng re y).take i), ((atT y i : Nat) : Int)) (by rfl) (by rfl)]
      dsimp only
      rw [if_pos (by omega), guardP_pos (by omega), readA hi', pullI, around_eq b1 b2 e0 e1, pullD_some (at' y i - re, at' y i + re) (by rfl) (by rfl)]
      dsimp only
      rw [guardP_pos ⟨cellP2 _ _, by rw [cP_len]; omega, by omega, by omega⟩, guardP_pos (by omega), readA ha, pullI, growP, ← rng_take hi', natI (by omega)]
      show _ = some (Rd.next 0 [iD ((i + 1 : Nat) : Int), lP ((rng re y).take (i + 1)), iD (((if at' y i > at' y (atT y i) then i else atT y i) : Nat) : Int)])
      by_cases g : at' y i > at' y (atT y i)
      · rw [if_pos g, if_pos g]
      · rw [if_neg g, if_neg g]
    rw [runR_next st, ih (i + 1) (by omega) (by omega)]
/-- The true samples. -/
abbrev smD (e : Int) (y : List Int) : D := .agg [lP (rng e y), iD ((pk y : Nat) : Int), iD (at' y (pk y) - e), iD (at' y (pk y) + e)]
theorem samples_eq (re : Int) (f : Q4) (l : List Q4) (st : Int) (y : List Int) (h : RX re y) : m_48 [ruD re f l, reD st y] = some (smD re y) := by
  have h' := h
  obtain ⟨e0, e1, l3, l64, hb⟩ := h
  rw [m_48_eq]
  unfold samples_M
  obtain ⟨b1, b2⟩ := hb 0 (by omega)
  have st0 : samples_L3_S re f.a f.b f.c f.d l.length (cQ l) st y.length (y.map iD) (.next 1 [iD 0, .one (.tuple #[]), iD 0]) = some (.next 0 [iD ((1 : Nat) : Int), lP ((rng re y).take 1), iD ((atT y 1 : Nat) : Int)]) := by
    show samples_L3_S1 re f.a f.b f.c f.d l.length (cQ l) st y.length (y.map iD) _ = _
    unfold samples_L3_S1
    rw [pullD_some ((0 : Int), (0 : Int)) (by rfl) (by rfl)]
    dsimp only
    have r0 : readD (y.map iD) ((0 : Int).toNat * 1) 1 false = some (iD (at' y 0)) := readA (i := 0) (by omega)
    rw [if_pos (by omega), guardP_pos (by omega), r0, pullI, guardP_pos (by omega), around_eq b1 b2 e0 e1, pullD_some (at' y 0 - re, at' y 0 + re) (by rfl) (by rfl)]
    dsimp only
    rw [pullI, if_neg (by omega), wrapJ (0 + 1) (by decide) (by decide), rng_take (i := 0) (by omega)]
    have : atT y 1 = 0 := by
      show (if at' y 0 > at' y 0 then 0 else 0) = 0
      split <;> rfl
    rw [this]
    rfl
  have hr := sm_go re f.a f.b f.c f.d l.length (cQ l) st y h' (y.length - 1) 1 (by omega) (by omega)
  have hr2 := (runR_next st0).trans hr
  have ha := atT_lt (y := y) (by omega) (i := y.length) (Nat.le_refl _)
  rw [bindL_some hr2, if_pos rfl, pullD_some ((rng re y).length, cP (rng re y), ((pk y : Nat) : Int)) (by rfl) (by rfl)]
  dsimp only
  have hk : pk y < (rng re y).length := by rw [rng_len]; exact ha
  obtain ⟨t1, t2⟩ := rng_ta (e := re) ha
  rw [guardP_pos (by omega), show (((pk y : Nat) : Int).toNat) = pk y from rfl, Nat.zero_add, readP hk, pullD_some (ta (rng re y) (pk y), va (rng re y) (pk y)) (by rfl) (by rfl)]
  dsimp only
  rw [guardP_pos ⟨by rw [cP_len]; omega, by decide⟩, t1, t2]
/-! ### Levels and halves -/
abbrev mayL (P : List (Int × Int)) (lo n : Int) : Nat → Bool := fun i => decide (10 * va P i ≥ n * lo)
abbrev mustL (P : List (Int × Int)) (hi n : Int) : Nat → Bool := fun i => decide (10 * ta P i ≥ n * hi)
abbrev mayH (P : List (Int × Int)) (hi : Int) : Nat → Bool := fun i => decide (2 * ta P i ≤ hi)
abbrev mustH (P : List (Int × Int)) (lo : Int) : Nat → Bool := fun i => decide (2 * va P i ≤ lo)
structure PB (P : List (Int × Int)) (lo hi : Int) : Prop where
  len : P.length ≤ 1000
  l1 : -10000 ≤ lo
  l2 : lo ≤ 10000
  h1 : -10000 ≤ hi
  h2 : hi ≤ 10000
  bnd : ∀ i, i < P.length → -10000 ≤ ta P i ∧ ta P i ≤ 10000 ∧ -10000 ≤ va P i ∧ va P i ≤ 10000
theorem mulT {x n : Int} (h1 : -10000 ≤ x) (h2 : x ≤ 10000) (n1 : 0 ≤ n) (n2 : n ≤ 10) : -100000 ≤ n * x ∧ n * x ≤ 100000 := by
  have := mulB (x := n) (y := x) (A := 10) (B := 10000) (by omega) (by omega) h1 h2
  omega
theorem lv_may {P : List (Int × Int)} {lo hi : Int} (a n : Int) (h : PB P lo hi) (n1 : 0 ≤ n) (n2 : n ≤ 10) : runR (levelW_L96_2_S P.length (cP P) a lo hi n) (.next 0 [iD 0]) = if fidx (mayL P lo n) P.length 0 < 0 then some (.out 0 []) else some (.out 1 [iD (fidx (mayL P lo n) P.length 0)]) := by
  obtain ⟨hl, l1, l2, h1, h2, hb⟩ := h
  obtain ⟨q1, q2⟩ := mulT l1 l2 n1 n2
  have hn : ((P.length : Int)).toNat - Int.toNat (0 : Int) = P.length := by omega
  have := scanX (n := P.length) (p := mayL P lo n) (S := levelW_L96_2_S P.length (cP P) a lo hi n) (fun i hi' => by
    rw [levelW_L96_2_S_0]
    unfold levelW_L96_2_S0
    rw [hn, pullD_some (i : Int) (by rfl) (by rfl), if_pos (by omega), guardP_pos (by omega), show Int.toNat (0 : Int) * 2 = 0 from rfl, List.drop_zero, ← cP_len, List.take_length, show ((i : Int).toNat) = i from rfl, readP hi', pullD_some (ta P i, va P i) (by rfl) (by rfl)]
    dsimp only
    obtain ⟨b1, b2, b3, b4⟩ := hb i hi'
    rw [wrapJ (10 * va P i) (by omega) (by omega), wrapJ (n * lo) (by omega) (by omega), natI (by omega)]
    by_cases g : 10 * va P i ≥ n * lo
    · rw [if_pos g, if_pos (by simpa [mayL] using g)]
    · rw [if_neg g, if_neg (by simpa [mayL] using g)]) (by
    rw [levelW_L96_2_S_0]
    unfold levelW_L96_2_S0
    rw [hn, pullD_some (P.length : Int) (by rfl) (by rfl), if_neg (by omega)]) P.length 0 (by omega)
  exact this
theorem lv_must {P : List (Int × Int)} {lo hi : Int} (a n : Int) (h : PB P lo hi) (n1 : 0 ≤ n) (n2 : n ≤ 10) : runR (levelW_L96_2_1_S P.length (cP P) a lo hi n) (.next 0 [iD 0]) = if fidx (mustL P hi n) P.length 0 < 0 then some (.out 0 []) else some (.out 1 [iD (fidx (mustL P hi n) P.length 0)]) := by
  obtain ⟨hl, l1, l2, h1, h2, hb⟩ := h
  obtain ⟨q1, q2⟩ := mulT h1 h2 n1 n2
  have hn : ((P.length : Int)).toNat - Int.toNat (0 : Int) = P.length := by omega
  have := scanX (n := P.length) (p := mustL P hi n) (S := levelW_L96_2_1_S P.length (cP P) a lo hi n) (fun i hi' => by
    rw [levelW_L96_2_1_S_0]
    unfold levelW_L96_2_1_S0
    rw [hn, pullD_some (i : Int) (by rfl) (by rfl), if_pos (by omega), guardP_pos (by omega), show Int.toNat (0 : Int) * 2 = 0 from rfl, List.drop_zero, ← cP_len, List.take_length, show ((i : Int).toNat) = i from rfl, readP hi', pullD_some (ta P i, va P i) (by rfl) (by rfl)]
    dsimp only
    obtain ⟨b1, b2, b3, b4⟩ := hb i hi'
    rw [wrapJ (10 * ta P i) (by omega) (by omega), wrapJ (n * hi) (by omega) (by omega), natI (by omega)]
    by_cases g : 10 * ta P i ≥ n * hi
    · rw [if_pos g, if_pos (by simpa [mustL] using g)]
    · rw [if_neg g, if_neg (by simpa [mustL] using g)]) (by
    rw [levelW_L96_2_1_S_0]
    unfold levelW_L96_2_1_S0
    rw [hn, pullD_some (P.length : Int) (by rfl) (by rfl), if_neg (by omega)]) P.length 0 (by omega)
  exact this
theorem fidx_ge (p : Nat → Bool) (m i : Nat) : -1 ≤ fidx p m i ∧ fidx p m i < ((i + m : Nat) : Int) ∧ (fidx p m i < 0 → fidx p m i = -1) := by
  rcases fidx_range p m i with e | ⟨a, b, -, -⟩
  · omega
  · omega
theorem levelW_eq {P : List (Int × Int)} {lo hi : Int} (a : Nat) (n : Int) (h : PB P lo hi) (n1 : 0 ≤ n) (n2 : n ≤ 10) : m_49 [.agg [lP P, iD (a : Int), iD lo, iD hi], iD n] = some (.tup [.agg [iD (fidx (mayL P lo n) P.length 0), iD (fidx (mustL P hi n) P.length 0)], .one (.bool (decide (0 ≤ fidx (mustL P hi n) P.length 0)))]) := by
  have r1 := lv_may a n h n1 n2
  have r2 := lv_must a n h n1 n2
  have g1 := fidx_ge (mayL P lo n) P.length 0
  have g2 := fidx_ge (mustL P hi n) P.length 0
  have hl := h.len
  rw [m_49_eq]
  unfold levelW_M
  rw [guardP_pos ⟨by omega, by omega, by omega, cP_len P⟩]
  generalize fidx (mayL P lo n) P.length 0 = x at *
  generalize fidx (mustL P hi n) P.length 0 = z at *
  by_cases h1 : x < 0
  · rw [if_pos h1] at r1
    rw [bindL_some r1, if_pos rfl, pullD_some () (by rfl) (by rfl)]
    have ex : x = -1 := g1.2.2 h1
    by_cases h2 : z < 0
    · rw [if_pos h2] at r2
      have ez : z = -1 := g2.2.2 h2
      rw [bindL_some r2, if_pos rfl, pullD_some () (by rfl) (by rfl), ex, ez]
      try rfl
    · rw [if_neg h2] at r2
      rw [bindL_some r2, if_neg (by decide), if_pos rfl, pullD_some z (by rfl) (by rfl), wrapJ (0 + z) (by omega) (by omega), Int.zero_add, ex]
      try rfl
  · rw [if_neg h1] at r1
    rw [bindL_some r1, if_neg (by decide), if_pos rfl, pullD_some x (by rfl) (by rfl)]
    by_cases h2 : z < 0
    · rw [if_pos h2] at r2
      have ez : z = -1 := g2.2.2 h2
      rw [bindL_some r2, if_pos rfl, pullD_some () (by rfl) (by rfl), wrapJ (0 + x) (by omega) (by omega), Int.zero_add, ez]
      try rfl
    · rw [if_neg h2] at r2
      rw [bindL_some r2, if_neg (by decide), if_pos rfl, pullD_some z (by rfl) (by rfl), wrapJ (0 + z) (by omega) (by omega), wrapJ (0 + x) (by omega) (by omega), Int.zero_add, Int.zero_add]
      try rfl
theorem ta_drop (P : List (Int × Int)) (s i : Nat) : ta (P.drop s) i = ta P (s + i) ∧ va (P.drop s) i = va P (s + i) := by
  unfold ta va
  rw [List.getElem?_drop]; exact ⟨rfl, rfl⟩
theorem hf_may {P : List (Int × Int)} {lo hi : Int} (a : Nat) (ha : a < P.length) (h : PB P lo hi) : runR (halfW_L96_2_S P.length (cP P) (a : Int) lo hi) (.next 0 [iD 0]) = if fidx (fun i => mayH P hi ((a + 1) + i)) (P.length - (a + 1)) 0 < 0 then some (.out 0 []) else some (.out 1 [iD (fidx (fun i => mayH P hi ((a + 1) + i)) (P.length - (a + 1)) 0)]) := by
  obtain ⟨hl, l1, l2, h1, h2, hb⟩ := h
  have hw : (IntKind.i64.wrap ((a : Int) + 1)).toNat = a + 1 := by rw [wrapJ _ (by omega) (by omega)]; omega
  have hn : ((P.length : Int)).toNat = P.length := rfl
  have hd : (P.drop (a + 1)).length = P.length - (a + 1) := List.length_drop
  have hc : List.take ((P.length - (a + 1)) * 2) (List.drop ((a + 1) * 2) (cP P)) = cP (P.drop (a + 1)) := by
    rw [cP_drop, ← hd, ← cP_len, List.take_length]
  have := scanX (n := P.length - (a + 1)) (p := fun i => mayH P hi ((a + 1) + i)) (S := halfW_L96_2_S P.length (cP P) (a : Int) lo hi) (fun i hi' => by
    rw [halfW_L96_2_S_0]
    unfold halfW_L96_2_S0
    rw [hw, hn, hc, pullD_some (i : Int) (by rfl) (by rfl), if_pos (by omega), guardP_pos (by omega), show ((i : Int).toNat) = i from rfl, readP (by rw [hd]; exact hi'), pullD_some (ta (P.drop (a + 1)) i, va (P.drop (a + 1)) i) (by rfl) (by rfl)]
    dsimp only
    obtain ⟨t1, t2⟩ := ta_drop P (a + 1) i
    obtain ⟨b1, b2, b3, b4⟩ := hb (a + 1 + i) (by omega)
    rw [t1, wrapJ (2 * ta P (a + 1 + i)) (by omega) (by omega), natI (by omega)]
    by_cases g : 2 * ta P (a + 1 + i) ≤ hi
    · rw [if_pos g, if_pos (by simpa [mayH] using g)]
    · rw [if_neg g, if_neg (by simpa [mayH] using g)]) (by
    rw [halfW_L96_2_S_0]
    unfold halfW_L96_2_S0
    rw [hw, hn, pullD_some ((P.length - (a + 1) : Nat) : Int) (by rfl) (by rfl), if_neg (by omega)]) (P.length - (a + 1)) 0 (by omega)
  exact this
theorem hf_must {P : List (Int × Int)} {lo hi : Int} (a : Nat) (ha : a < P.length) (h : PB P lo hi) : runR (halfW_L96_2_1_S P.length (cP P) (a : Int) lo hi) (.next 0 [iD 0]) = if fidx (fun i => mustH P lo ((a + 1) + i)) (P.length - (a + 1)) 0 < 0 then some (.out 0 []) else some (.out 1 [iD (fidx (fun i => mustH P lo ((a + 1) + i)) (P.length - (a + 1)) 0)]) := by
  obtain ⟨hl, l1, l2, h1, h2, hb⟩ := h
  have hw : (IntKind.i64.wrap ((a : Int) + 1)).toNat = a + 1 := by rw [wrapJ _ (by omega) (by omega)]; omega
  have hn : ((P.length : Int)).toNat = P.length := rfl
  have hd : (P.drop (a + 1)).length = P.length - (a + 1) := List.length_drop
  have hc : List.take ((P.length - (a + 1)) * 2) (List.drop ((a + 1) * 2) (cP P)) = cP (P.drop (a + 1)) := by
    rw [cP_drop, ← hd, ← cP_len, List.take_length]
  have := scanX (n := P.length - (a + 1)) (p := fun i => mustH P lo ((a + 1) + i)) (S := halfW_L96_2_1_S P.length (cP P) (a : Int) lo hi) (fun i hi' => by
    rw [halfW_L96_2_1_S_0]
    unfold halfW_L96_2_1_S0
    rw [hw, hn, hc, pullD_some (i : Int) (by rfl) (by rfl), if_pos (by omega), guardP_pos (by omega), show ((i : Int).toNat) = i from rfl, readP (by rw [hd]; exact hi'), pullD_some (ta (P.drop (a + 1)) i, va (P.drop (a + 1)) i) (by rfl) (by rfl)]
    dsimp only
    obtain ⟨t1, t2⟩ := ta_drop P (a + 1) i
    obtain ⟨b1, b2, b3, b4⟩ := hb (a + 1 + i) (by omega)
    rw [t2, wrapJ (2 * va P (a + 1 + i)) (by omega) (by omega), natI (by omega)]
    by_cases g : 2 * va P (a + 1 + i) ≤ lo
    · rw [if_pos g, if_pos (by simpa [mustH] using g)]
    · rw [if_neg g, if_neg (by simpa [mustH] using g)]) (by
    rw [halfW_L96_2_1_S_0]
    unfold halfW_L96_2_1_S0
    rw [hw, hn, pullD_some ((P.length - (a + 1) : Nat) : Int) (by rfl) (by rfl), if_neg (by omega)]) (P.length - (a + 1)) 0 (by omega)
  exact this
theorem halfW_eq {P : List (Int × Int)} {lo hi : Int} (a : Nat) (ha : a < P.length) (h : PB P lo hi) : m_50 [.agg [lP P, iD (a : Int), iD lo, iD hi]] = some (.tup [.agg [iD ((a : Int) + 1 + fidx (fun i => mayH P hi ((a + 1) + i)) (P.length - (a + 1)) 0), iD ((a : Int) + 1 + fidx (fun i => mustH P lo ((a + 1) + i)) (P.length - (a + 1)) 0)], .one (.bool (decide (0 ≤ fidx (fun i => mustH P lo ((a + 1) + i)) (P.length - (a + 1)) 0)))]) := by
  have r1 := hf_may a ha h
  have r2 := hf_must a ha h
  have g1 := fidx_ge (fun i => mayH P hi ((a + 1) + i)) (P.length - (a + 1)) 0
  have g2 := fidx_ge (fun i => mustH P lo ((a + 1) + i)) (P.length - (a + 1)) 0
  have hl := h.len
  have hw : IntKind.i64.wrap ((a : Int) + 1) = (a : Int) + 1 := wrapJ _ (by omega) (by omega)
  rw [m_50_eq]
  unfold halfW_M
  rw [hw, guardP_pos ⟨by omega, by omega, by omega, cP_len P⟩]
  generalize fidx (fun i => mayH P hi ((a + 1) + i)) (P.length - (a + 1)) 0 = x at *
  generalize fidx (fun i => mustH P lo ((a + 1) + i)) (P.length - (a + 1)) 0 = z at *
  by_cases h1 : x < 0
  · rw [if_pos h1] at r1
    rw [bindL_some r1, if_pos rfl, pullD_some () (by rfl) (by rfl)]
    have ex : x = -1 := g1.2.2 h1
    by_cases h2 : z < 0
    · rw [if_pos h2] at r2
      have ez : z = -1 := g2.2.2 h2
      rw [bindL_some r2, if_pos rfl, pullD_some () (by rfl) (by rfl), wrapJ ((a : Int) + 1 + -1) (by omega) (by omega), ex, ez]
      try rfl
    · rw [if_neg h2] at r2
      rw [bindL_some r2, if_neg (by decide), if_pos rfl, pullD_some z (by rfl) (by rfl), wrapJ ((a : Int) + 1 + -1) (by omega) (by omega), wrapJ ((a : Int) + 1 + z) (by omega) (by omega), ex]
      try rfl
  · rw [if_neg h1] at r1
    rw [bindL_some r1, if_neg (by decide), if_pos rfl, pullD_some x (by rfl) (by rfl)]
    by_cases h2 : z < 0
    · rw [if_pos h2] at r2
      have ez : z = -1 := g2.2.2 h2
      rw [bindL_some r2, if_pos rfl, pullD_some () (by rfl) (by rfl), wrapJ ((a : Int) + 1 + x) (by omega) (by omega), wrapJ ((a : Int) + 1 + -1) (by omega) (by omega), ez]
      try rfl
    · rw [if_neg h2] at r2
      rw [bindL_some r2, if_neg (by decide), if_pos rfl, pullD_some z (by rfl) (by rfl), wrapJ ((a : Int) + 1 + x) (by omega) (by omega), wrapJ ((a : Int) + 1 + z) (by omega) (by omega)]
      try rfl
end Go.Proofs.Ytmohaohdbklkeaa
