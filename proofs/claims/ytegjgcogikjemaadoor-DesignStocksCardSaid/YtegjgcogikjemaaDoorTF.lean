import Derived.Test.YtegjgcogikjemaaDoorTC
import Derived.Test.YtegjgcogikjemaaDoorTE
import Derived.Shelf.Strings.OnBuilder
import Derived.Test.YtegjgcogikjemaaDoorProg
set_option linter.unusedVariables false
set_option linter.unusedSimpArgs false
set_option linter.unusedSectionVars false
set_option linter.unnecessarySimpa false
namespace Go.Proofs.YtegjgcogikjemaaDoor
open Go.Ev Go.RowKit
set_option maxRecDepth 100000
set_option linter.all false
noncomputable section
abbrev shND2_0 (a0 : ByteArray) (a1 : Int) (a2 : Int) (a3 : Int) (a4 : Int) (a5 : Int) (a6 : Int) (a7 : Int) (a8 : Int) (a9 : Int) (a10 : Int) (a11 : Int) (a12 : Int) (a13 : Int) : D := .agg [.one (.string a0), .one (.int .i64 a1), .one (.int .i64 a2), .one (.int .i64 a3), .one (.int .i64 a4), .one (.int .i64 a5), .one (.int .i64 a6), .one (.int .i64 a7), .one (.int .i64 a8), .one (.int .i64 a9), .one (.int .i64 a10), .one (.int .i64 a11), .one (.int .i64 a12), .one (.int .i64 a13)]
def shND2_0P (d : D) : ByteArray × Int × Int × Int × Int × Int × Int × Int × Int × Int × Int × Int × Int × Int := (D.vs (D.at d 0), D.vi (D.at d 1), D.vi (D.at d 2), D.vi (D.at d 3), D.vi (D.at d 4), D.vi (D.at d 5), D.vi (D.at d 6), D.vi (D.at d 7), D.vi (D.at d 8), D.vi (D.at d 9), D.vi (D.at d 10), D.vi (D.at d 11), D.vi (D.at d 12), D.vi (D.at d 13))
def covers_x2_0 : LExit := ⟨some 0, [], (List.range' 4 5 ++ (List.range' 11 34))⟩
def covers_x2_1 : LExit := ⟨none, [.val 4], (List.range' 5 4 ++ (List.range' 11 34))⟩
def covers_sp : List LSpec := [⟨152, 2, [covers_x2_0, covers_x2_1]⟩]
def covers_L2_E (pn : ByteArray) (pp p0 p1 p2 p3 p4 p5 p6 p7 p8 p9 p10 p11 : Int) (qn : ByteArray) (qp q0 q1 q2 q3 q4 q5 q6 q7 q8 q9 q10 q11 : Int)  : List AV × AHeap := ([.pure (.agg #[.string pn, .int .i64 pp, .int .i64 p0, .int .i64 p1, .int .i64 p2, .int .i64 p3, .int .i64 p4, .int .i64 p5, .int .i64 p6, .int .i64 p7, .int .i64 p8, .int .i64 p9, .int .i64 p10, .int .i64 p11]), .pure (.agg #[.string qn, .int .i64 qp, .int .i64 q0, .int .i64 q1, .int .i64 q2, .int .i64 q3, .int .i64 q4, .int .i64 q5, .int .i64 q6, .int .i64 q7, .int .i64 q8, .int .i64 q9, .int .i64 q10, .int .i64 q11]), .ptr 0 0, .ptr 1 0, .pure (.bool false), .pure (.tuple #[]), .pure (.tuple #[]), .pure (.tuple #[]), .pure (.tuple #[]), .ptr 0 2, .pure (.agg #[.int .i64 p0, .int .i64 p1, .int .i64 p2, .int .i64 p3, .int .i64 p4, .int .i64 p5, .int .i64 p6, .int .i64 p7, .int .i64 p8, .int .i64 p9, .int .i64 p10, .int .i64 p11]), .pure (.int .i64 (0 : Int)), .pure (.tuple #[]), .pure (.tuple #[]), .pure (.tuple #[]), .pure (.tuple #[]), .pure (.tuple #[]), .pure (.tuple #[]), .pure (.tuple #[]), .pure (.tuple #[]), .pure (.tuple #[]), .pure (.tuple #[]), .pure (.tuple #[]), .pure (.tuple #[]), .pure (.tuple #[]), .pure (.tuple #[]), .pure (.tuple #[]), .pure (.tuple #[]), .pure (.tuple #[]), .pure (.tuple #[]), .pure (.tuple #[]), .pure (.tuple #[]), .pure (.tuple #[]), .pure (.tuple #[]), .pure (.tuple #[]), .pure (.tuple #[]), .pure (.tuple #[]), .pure (.tuple #[]), .pure (.tuple #[]), .pure (.tuple #[]), .pure (.tuple #[]), .pure (.tuple #[]), .pure (.tuple #[]), .pure (.tuple #[]), .pure (.tuple #[]), .pure (.tuple #[]), .pure (.tuple #[]), .pure (.tuple #[]), .pure (.tuple #[]), .pure (.tuple #[])], [(1, { cells := [.pure (.string qn), .pure (.int .i64 qp), .pure (.int .i64 q0), .pure (.int .i64 q1), .pure (.int .i64 q2), .pure (.int .i64 q3), .pure (.int .i64 q4), .pure (.int .i64 q5), .pure (.int .i64 q6), .pure (.int .i64 q7), .pure (.int .i64 q8), .pure (.int .i64 q9), .pure (.int .i64 q10), .pure (.int .i64 q11)], opn := none, kind := .cells }), (0, { cells := [.pure (.string pn), .pure (.int .i64 pp), .pure (.int .i64 p0), .pure (.int .i64 p1), .pure (.int .i64 p2), .pure (.int .i64 p3), .pure (.int .i64 p4), .pure (.int .i64 p5), .pure (.int .i64 p6), .pure (.int .i64 p7), .pure (.int .i64 p8), .pure (.int .i64 p9), .pure (.int .i64 p10), .pure (.int .i64 p11)], opn := none, kind := .cells })])
def covers_L2_A : LoopAt := ⟨152, loopAt Tryd.prog 152 0, 2, 41, 2, noFrame⟩
theorem covers_L2_ok : (covers_L2_A).OK := ⟨by show 2 ≤ 41; decide, by show 2 ≤ 2; decide, by kernel_rfl, rfl⟩
def covers_L2_gs (pn : ByteArray) (pp p0 p1 p2 p3 p4 p5 p6 p7 p8 p9 p10 p11 : Int) (qn : ByteArray) (qp q0 q1 q2 q3 q4 q5 q6 q7 q8 q9 q10 q11 : Int)  : Go.Ev.Rd → Option GS
  | .next 0 ds => ghost [.val 11] (List.range' 4 5 ++ (List.range' 12 33)) (covers_L2_E pn pp p0 p1 p2 p3 p4 p5 p6 p7 p8 p9 p10 p11 qn qp q0 q1 q2 q3 q4 q5 q6 q7 q8 q9 q10 q11).1 (covers_L2_E pn pp p0 p1 p2 p3 p4 p5 p6 p7 p8 p9 p10 p11 qn qp q0 q1 q2 q3 q4 q5 q6 q7 q8 q9 q10 q11).2 2 ds
  | .out 0 ds => ghost covers_x2_0.live covers_x2_0.junk (covers_L2_E pn pp p0 p1 p2 p3 p4 p5 p6 p7 p8 p9 p10 p11 qn qp q0 q1 q2 q3 q4 q5 q6 q7 q8 q9 q10 q11).1 (covers_L2_E pn pp p0 p1 p2 p3 p4 p5 p6 p7 p8 p9 p10 p11 qn qp q0 q1 q2 q3 q4 q5 q6 q7 q8 q9 q10 q11).2 2 ds
  | .out 1 ds => ghost covers_x2_1.live covers_x2_1.junk (covers_L2_E pn pp p0 p1 p2 p3 p4 p5 p6 p7 p8 p9 p10 p11 qn qp q0 q1 q2 q3 q4 q5 q6 q7 q8 q9 q10 q11).1 (covers_L2_E pn pp p0 p1 p2 p3 p4 p5 p6 p7 p8 p9 p10 p11 qn qp q0 q1 q2 q3 q4 q5 q6 q7 q8 q9 q10 q11).2 2 ds
  | _ => none
def covers_L2_ex : Nat → Option Nat
  | 0 => covers_x2_0.ex
  | 1 => covers_x2_1.ex
  | _ => none
def covers_L2_ax : Go.Ev.Rd → AX
  | .next _ _ => .normal
  | .out j _ => axOf (covers_L2_ex j)
def covers_L2_S0 (pn : ByteArray) (pp p0 p1 p2 p3 p4 p5 p6 p7 p8 p9 p10 p11 : Int) (qn : ByteArray) (qp q0 q1 q2 q3 q4 q5 q6 q7 q8 q9 q10 q11 : Int)  (ds : List D) : Option Go.Ev.Rd := pullD (α := Int) (some (.tup ds)) (fun d => ((D.vi (D.at d 0)))) (fun s11 => .tup [.one (.int .i64 s11)]) fun s11 => (if s11 = (0) then (if (!(p0 == q0 && (p1 == q1 && true))) = true then (if p0 ≤ q0 then (if (!decide (p1 ≤ q1)) = true then some (.out 1 [.one (.bool false)]) else some (.next 0 [.one (.int .i64 (1 : Int))])) else some (.out 1 [.one (.bool false)])) else some (.next 0 [.one (.int .i64 (1 : Int))])) else if s11 = (1) then (if (!(p2 == q2 && (p3 == q3 && true))) = true then (if p2 ≤ q2 then (if (!decide (p3 ≤ q3)) = true then some (.out 1 [.one (.bool false)]) else some (.next 0 [.one (.int .i64 (2 : Int))])) else some (.out 1 [.one (.bool false)])) else some (.next 0 [.one (.int .i64 (2 : Int))])) else if s11 = (2) then (if (!(p4 == q4 && (p5 == q5 && true))) = true then (if p4 ≤ q4 then (if (!decide (p5 ≤ q5)) = true then some (.out 1 [.one (.bool false)]) else some (.next 0 [.one (.int .i64 (3 : Int))])) else some (.out 1 [.one (.bool false)])) else some (.next 0 [.one (.int .i64 (3 : Int))])) else if s11 = (3) then (if (!(p6 == q6 && (p7 == q7 && true))) = true then (if p6 ≤ q6 then (if (!decide (p7 ≤ q7)) = true then some (.out 1 [.one (.bool false)]) else some (.next 0 [.one (.int .i64 (4 : Int))])) else some (.out 1 [.one (.bool false)])) else some (.next 0 [.one (.int .i64 (4 : Int))])) else if s11 = (4) then (if (!(p8 == q8 && (p9 == q9 && true))) = true then some (.out 1 [.one (.bool false)]) else some (.next 0 [.one (.int .i64 (5 : Int))])) else if s11 = (5) then (if (!(p10 == q10 && (p11 == q11 && true))) = true then some (.out 1 [.one (.bool false)]) else some (.next 0 [.one (.int .i64 (6 : Int))])) else if s11 = (6) then some (.out 0 []) else none)
def covers_L2_S (pn : ByteArray) (pp p0 p1 p2 p3 p4 p5 p6 p7 p8 p9 p10 p11 : Int) (qn : ByteArray) (qp q0 q1 q2 q3 q4 q5 q6 q7 q8 q9 q10 q11 : Int)  : Go.Ev.Rd → Option Go.Ev.Rd
  | .next 0 ds => covers_L2_S0 pn pp p0 p1 p2 p3 p4 p5 p6 p7 p8 p9 p10 p11 qn qp q0 q1 q2 q3 q4 q5 q6 q7 q8 q9 q10 q11 ds
  | _ => none
theorem covers_L2_S_ok (pn : ByteArray) (pp p0 p1 p2 p3 p4 p5 p6 p7 p8 p9 p10 p11 : Int) (qn : ByteArray) (qp q0 q1 q2 q3 q4 q5 q6 q7 q8 q9 q10 q11 : Int)  : ∀ s_ t_, covers_L2_S pn pp p0 p1 p2 p3 p4 p5 p6 p7 p8 p9 p10 p11 qn qp q0 q1 q2 q3 q4 q5 q6 q7 q8 q9 q10 q11 s_ = some t_ → Step (ctx [152] covers_sp) Tabs covers_L2_A (stateOf (covers_L2_gs pn pp p0 p1 p2 p3 p4 p5 p6 p7 p8 p9 p10 p11 qn qp q0 q1 q2 q3 q4 q5 q6 q7 q8 q9 q10 q11 s_)) (stateOf (covers_L2_gs pn pp p0 p1 p2 p3 p4 p5 p6 p7 p8 p9 p10 p11 qn qp q0 q1 q2 q3 q4 q5 q6 q7 q8 q9 q10 q11 t_)) (covers_L2_ax t_) ∧ EndOK covers_L2_A.nx covers_L2_A.low (covers_L2_gs pn pp p0 p1 p2 p3 p4 p5 p6 p7 p8 p9 p10 p11 qn qp q0 q1 q2 q3 q4 q5 q6 q7 q8 q9 q10 q11) t_
  | .next 0 ds, t_, h => by
    have h_ : covers_L2_S0 pn pp p0 p1 p2 p3 p4 p5 p6 p7 p8 p9 p10 p11 qn qp q0 q1 q2 q3 q4 q5 q6 q7 q8 q9 q10 q11 ds = some t_ := h
    clear h
    unfold covers_L2_S0 at h_
    obtain ⟨s11, e0, h0⟩ := pullD_elim h_
    clear h_
    obtain rfl := tup_inj e0
    by_cases j1_ : s11 = (0)
    · have h2_ := (if_pos j1_).symm.trans h0
      clear h0
      subst j1_
      by_cases b4_ : (!(p0 == q0 && (p1 == q1 && true))) = true
      · have h5_ := (if_pos b4_).symm.trans h2_
        by_cases b6_ : p0 ≤ q0
        · have h7_ := (if_pos b6_).symm.trans h5_
          by_cases b8_ : (!decide (p1 ≤ q1)) = true
          · have h9_ := (if_pos b8_).symm.trans h7_
            obtain rfl := Option.some.inj h9_
            exact ⟨step_pc 3000 (bT 21 []) [] [c_T, c_q b4_, c_q b4_, c_T, c_T, c_T, c_T, c_T, c_q b4_, c_T, c_q b4_, c_d b6_, c_d b6_, c_d b6_, c_d b6_, c_d b6_, c_q b4_, c_d b6_, c_q b4_, c_q b4_, c_q b8_] [] _ rfl (by kernel_rfl) (by kernel_rfl) (by kernel_rfl) (by kernel_rfl) (by kernel_rfl) (by kernel_rfl), by kernel_rfl, by kernel_rfl⟩
          · have h9_ := (if_neg b8_).symm.trans h7_
            have b10_ : (!decide (p1 ≤ q1)) = false := by first | exact b8_ | simpa using b8_
            obtain rfl := Option.some.inj h9_
            exact ⟨step_pc 3000 (bT 20 (bF 1 [])) [] [c_T, c_q b4_, c_q b4_, c_T, c_T, c_T, c_T, c_T, c_q b4_, c_T, c_q b4_, c_d b6_, c_d b6_, c_d b6_, c_d b6_, c_d b6_, c_q b4_, c_d b6_, c_q b4_, c_q b4_, c_q b10_] [] _ rfl (by kernel_rfl) (by kernel_rfl) (by kernel_rfl) (by kernel_rfl) (by kernel_rfl) (by kernel_rfl), trivial⟩
        · have h7_ := (if_neg b6_).symm.trans h5_
          obtain rfl := Option.some.inj h7_
          exact ⟨step_pc 3000 (bT 11 (bF 5 (bT 1 (bF 1 (bT 3 []))))) [] [c_T, c_q b4_, c_q b4_, c_T, c_T, c_T, c_T, c_T, c_q b4_, c_T, c_q b4_, c_n b6_, c_n b6_, c_n b6_, c_n b6_, c_n b6_, c_q b4_, c_n b6_, c_q b4_, c_q b4_, c_T] [] _ rfl (by kernel_rfl) (by kernel_rfl) (by kernel_rfl) (by kernel_rfl) (by kernel_rfl) (by kernel_rfl), by kernel_rfl, by kernel_rfl⟩
      · have h5_ := (if_neg b4_).symm.trans h2_
        have b11_ : (!(p0 == q0 && (p1 == q1 && true))) = false := by first | exact b4_ | simpa using b4_
        obtain rfl := Option.some.inj h5_
        exact ⟨step_pc 3000 (bT 1 (bF 8 [])) [] [c_T, c_q b11_, c_q b11_, c_q b11_, c_q b11_, c_q b11_, c_q b11_, c_q b11_, c_F] [] _ rfl (by kernel_rfl) (by kernel_rfl) (by kernel_rfl) (by kernel_rfl) (by kernel_rfl) (by kernel_rfl), trivial⟩
    have h3_ := (if_neg j1_).symm.trans h0
    clear h0
    by_cases j12_ : s11 = (1)
    · have h13_ := (if_pos j12_).symm.trans h3_
      clear h3_
      subst j12_
      by_cases b15_ : (!(p2 == q2 && (p3 == q3 && true))) = true
      · have h16_ := (if_pos b15_).symm.trans h13_
        by_cases b17_ : p2 ≤ q2
        · have h18_ := (if_pos b17_).symm.trans h16_
          by_cases b19_ : (!decide (p3 ≤ q3)) = true
          · have h20_ := (if_pos b19_).symm.trans h18_
            obtain rfl := Option.some.inj h20_
            exact ⟨step_pc 3000 (bT 21 []) [] [c_T, c_q b15_, c_q b15_, c_T, c_T, c_T, c_T, c_T, c_q b15_, c_T, c_q b15_, c_d b17_, c_d b17_, c_d b17_, c_d b17_, c_d b17_, c_q b15_, c_d b17_, c_q b15_, c_q b15_, c_q b19_] [] _ rfl (by kernel_rfl) (by kernel_rfl) (by kernel_rfl) (by kernel_rfl) (by kernel_rfl) (by kernel_rfl), by kernel_rfl, by kernel_rfl⟩
          · have h20_ := (if_neg b19_).symm.trans h18_
            have b21_ : (!decide (p3 ≤ q3)) = false := by first | exact b19_ | simpa using b19_
            obtain rfl := Option.some.inj h20_
            exact ⟨step_pc 3000 (bT 20 (bF 1 [])) [] [c_T, c_q b15_, c_q b15_, c_T, c_T, c_T, c_T, c_T, c_q b15_, c_T, c_q b15_, c_d b17_, c_d b17_, c_d b17_, c_d b17_, c_d b17_, c_q b15_, c_d b17_, c_q b15_, c_q b15_, c_q b21_] [] _ rfl (by kernel_rfl) (by kernel_rfl) (by kernel_rfl) (by kernel_rfl) (by kernel_rfl) (by kernel_rfl), trivial⟩
        · have h18_ := (if_neg b17_).symm.trans h16_
          obtain rfl := Option.some.inj h18_
          exact ⟨step_pc 3000 (bT 11 (bF 5 (bT 1 (bF 1 (bT 3 []))))) [] [c_T, c_q b15_, c_q b15_, c_T, c_T, c_T, c_T, c_T, c_q b15_, c_T, c_q b15_, c_n b17_, c_n b17_, c_n b17_, c_n b17_, c_n b17_, c_q b15_, c_n b17_, c_q b15_, c_q b15_, c_T] [] _ rfl (by kernel_rfl) (by kernel_rfl) (by kernel_rfl) (by kernel_rfl) (by kernel_rfl) (by kernel_rfl), by kernel_rfl, by kernel_rfl⟩
      · have h16_ := (if_neg b15_).symm.trans h13_
        have b22_ : (!(p2 == q2 && (p3 == q3 && true))) = false := by first | exact b15_ | simpa using b15_
        obtain rfl := Option.some.inj h16_
        exact ⟨step_pc 3000 (bT 1 (bF 8 [])) [] [c_T, c_q b22_, c_q b22_, c_q b22_, c_q b22_, c_q b22_, c_q b22_, c_q b22_, c_F] [] _ rfl (by kernel_rfl) (by kernel_rfl) (by kernel_rfl) (by kernel_rfl) (by kernel_rfl) (by kernel_rfl), trivial⟩
    have h14_ := (if_neg j12_).symm.trans h3_
    clear h3_
    by_cases j23_ : s11 = (2)
    · have h24_ := (if_pos j23_).symm.trans h14_
      clear h14_
      subst j23_
      by_cases b26_ : (!(p4 == q4 && (p5 == q5 && true))) = true
      · have h27_ := (if_pos b26_).symm.trans h24_
        by_cases b28_ : p4 ≤ q4
        · have h29_ := (if_pos b28_).symm.trans h27_
          by_cases b30_ : (!decide (p5 ≤ q5)) = true
          · have h31_ := (if_pos b30_).symm.trans h29_
            obtain rfl := Option.some.inj h31_
            exact ⟨step_pc 3000 (bT 21 []) [] [c_T, c_q b26_, c_q b26_, c_T, c_T, c_T, c_T, c_T, c_q b26_, c_T, c_q b26_, c_d b28_, c_d b28_, c_d b28_, c_d b28_, c_d b28_, c_q b26_, c_d b28_, c_q b26_, c_q b26_, c_q b30_] [] _ rfl (by kernel_rfl) (by kernel_rfl) (by kernel_rfl) (by kernel_rfl) (by kernel_rfl) (by kernel_rfl), by kernel_rfl, by kernel_rfl⟩
          · have h31_ := (if_neg b30_).symm.trans h29_
            have b32_ : (!decide (p5 ≤ q5)) = false := by first | exact b30_ | simpa using b30_
            obtain rfl := Option.some.inj h31_
            exact ⟨step_pc 3000 (bT 20 (bF 1 [])) [] [c_T, c_q b26_, c_q b26_, c_T, c_T, c_T, c_T, c_T, c_q b26_, c_T, c_q b26_, c_d b28_, c_d b28_, c_d b28_, c_d b28_, c_d b28_, c_q b26_, c_d b28_, c_q b26_, c_q b26_, c_q b32_] [] _ rfl (by kernel_rfl) (by kernel_rfl) (by kernel_rfl) (by kernel_rfl) (by kernel_rfl) (by kernel_rfl), trivial⟩
        · have h29_ := (if_neg b28_).symm.trans h27_
          obtain rfl := Option.some.inj h29_
          exact ⟨step_pc 3000 (bT 11 (bF 5 (bT 1 (bF 1 (bT 3 []))))) [] [c_T, c_q b26_, c_q b26_, c_T, c_T, c_T, c_T, c_T, c_q b26_, c_T, c_q b26_, c_n b28_, c_n b28_, c_n b28_, c_n b28_, c_n b28_, c_q b26_, c_n b28_, c_q b26_, c_q b26_, c_T] [] _ rfl (by kernel_rfl) (by kernel_rfl) (by kernel_rfl) (by kernel_rfl) (by kernel_rfl) (by kernel_rfl), by kernel_rfl, by kernel_rfl⟩
      · have h27_ := (if_neg b26_).symm.trans h24_
        have b33_ : (!(p4 == q4 && (p5 == q5 && true))) = false := by first | exact b26_ | simpa using b26_
        obtain rfl := Option.some.inj h27_
        exact ⟨step_pc 3000 (bT 1 (bF 8 [])) [] [c_T, c_q b33_, c_q b33_, c_q b33_, c_q b33_, c_q b33_, c_q b33_, c_q b33_, c_F] [] _ rfl (by kernel_rfl) (by kernel_rfl) (by kernel_rfl) (by kernel_rfl) (by kernel_rfl) (by kernel_rfl), trivial⟩
    have h25_ := (if_neg j23_).symm.trans h14_
    clear h14_
    by_cases j34_ : s11 = (3)
    · have h35_ := (if_pos j34_).symm.trans h25_
      clear h25_
      subst j34_
      by_cases b37_ : (!(p6 == q6 && (p7 == q7 && true))) = true
      · have h38_ := (if_pos b37_).symm.trans h35_
        by_cases b39_ : p6 ≤ q6
        · have h40_ := (if_pos b39_).symm.trans h38_
          by_cases b41_ : (!decide (p7 ≤ q7)) = true
          · have h42_ := (if_pos b41_).symm.trans h40_
            obtain rfl := Option.some.inj h42_
            exact ⟨step_pc 3000 (bT 21 []) [] [c_T, c_q b37_, c_q b37_, c_T, c_T, c_T, c_T, c_T, c_q b37_, c_T, c_q b37_, c_d b39_, c_d b39_, c_d b39_, c_d b39_, c_d b39_, c_q b37_, c_d b39_, c_q b37_, c_q b37_, c_q b41_] [] _ rfl (by kernel_rfl) (by kernel_rfl) (by kernel_rfl) (by kernel_rfl) (by kernel_rfl) (by kernel_rfl), by kernel_rfl, by kernel_rfl⟩
          · have h42_ := (if_neg b41_).symm.trans h40_
            have b43_ : (!decide (p7 ≤ q7)) = false := by first | exact b41_ | simpa using b41_
            obtain rfl := Option.some.inj h42_
            exact ⟨step_pc 3000 (bT 20 (bF 1 [])) [] [c_T, c_q b37_, c_q b37_, c_T, c_T, c_T, c_T, c_T, c_q b37_, c_T, c_q b37_, c_d b39_, c_d b39_, c_d b39_, c_d b39_, c_d b39_, c_q b37_, c_d b39_, c_q b37_, c_q b37_, c_q b43_] [] _ rfl (by kernel_rfl) (by kernel_rfl) (by kernel_rfl) (by kernel_rfl) (by kernel_rfl) (by kernel_rfl), trivial⟩
        · have h40_ := (if_neg b39_).symm.trans h38_
          obtain rfl := Option.some.inj h40_
          exact ⟨step_pc 3000 (bT 11 (bF 5 (bT 1 (bF 1 (bT 3 []))))) [] [c_T, c_q b37_, c_q b37_, c_T, c_T, c_T, c_T, c_T, c_q b37_, c_T, c_q b37_, c_n b39_, c_n b39_, c_n b39_, c_n b39_, c_n b39_, c_q b37_, c_n b39_, c_q b37_, c_q b37_, c_T] [] _ rfl (by kernel_rfl) (by kernel_rfl) (by kernel_rfl) (by kernel_rfl) (by kernel_rfl) (by kernel_rfl), by kernel_rfl, by kernel_rfl⟩
      · have h38_ := (if_neg b37_).symm.trans h35_
        have b44_ : (!(p6 == q6 && (p7 == q7 && true))) = false := by first | exact b37_ | simpa using b37_
        obtain rfl := Option.some.inj h38_
        exact ⟨step_pc 3000 (bT 1 (bF 8 [])) [] [c_T, c_q b44_, c_q b44_, c_q b44_, c_q b44_, c_q b44_, c_q b44_, c_q b44_, c_F] [] _ rfl (by kernel_rfl) (by kernel_rfl) (by kernel_rfl) (by kernel_rfl) (by kernel_rfl) (by kernel_rfl), trivial⟩
    have h36_ := (if_neg j34_).symm.trans h25_
    clear h25_
    by_cases j45_ : s11 = (4)
    · have h46_ := (if_pos j45_).symm.trans h36_
      clear h36_
      subst j45_
      by_cases b48_ : (!(p8 == q8 && (p9 == q9 && true))) = true
      · have h49_ := (if_pos b48_).symm.trans h46_
        obtain rfl := Option.some.inj h49_
        exact ⟨step_pc 3000 (bT 3 (bF 5 (bT 1 (bF 1 (bT 1 (bF 5 (bT 1 (bF 1 (bT 3 []))))))))) [] [c_T, c_q b48_, c_q b48_, c_F, c_F, c_F, c_F, c_F, c_q b48_, c_F, c_q b48_, c_F, c_F, c_F, c_F, c_F, c_q b48_, c_F, c_q b48_, c_q b48_, c_T] [] _ rfl (by kernel_rfl) (by kernel_rfl) (by kernel_rfl) (by kernel_rfl) (by kernel_rfl) (by kernel_rfl), by kernel_rfl, by kernel_rfl⟩
      · have h49_ := (if_neg b48_).symm.trans h46_
        have b50_ : (!(p8 == q8 && (p9 == q9 && true))) = false := by first | exact b48_ | simpa using b48_
        obtain rfl := Option.some.inj h49_
        exact ⟨step_pc 3000 (bT 1 (bF 8 [])) [] [c_T, c_q b50_, c_q b50_, c_q b50_, c_q b50_, c_q b50_, c_q b50_, c_q b50_, c_F] [] _ rfl (by kernel_rfl) (by kernel_rfl) (by kernel_rfl) (by kernel_rfl) (by kernel_rfl) (by kernel_rfl), trivial⟩
    have h47_ := (if_neg j45_).symm.trans h36_
    clear h36_
    by_cases j51_ : s11 = (5)
    · have h52_ := (if_pos j51_).symm.trans h47_
      clear h47_
      subst j51_
      by_cases b54_ : (!(p10 == q10 && (p11 == q11 && true))) = true
      · have h55_ := (if_pos b54_).symm.trans h52_
        obtain rfl := Option.some.inj h55_
        exact ⟨step_pc 3000 (bT 3 (bF 5 (bT 1 (bF 1 (bT 1 (bF 5 (bT 1 (bF 1 (bT 3 []))))))))) [] [c_T, c_q b54_, c_q b54_, c_F, c_F, c_F, c_F, c_F, c_q b54_, c_F, c_q b54_, c_F, c_F, c_F, c_F, c_F, c_q b54_, c_F, c_q b54_, c_q b54_, c_T] [] _ rfl (by kernel_rfl) (by kernel_rfl) (by kernel_rfl) (by kernel_rfl) (by kernel_rfl) (by kernel_rfl), by kernel_rfl, by kernel_rfl⟩
      · have h55_ := (if_neg b54_).symm.trans h52_
        have b56_ : (!(p10 == q10 && (p11 == q11 && true))) = false := by first | exact b54_ | simpa using b54_
        obtain rfl := Option.some.inj h55_
        exact ⟨step_pc 3000 (bT 1 (bF 8 [])) [] [c_T, c_q b56_, c_q b56_, c_q b56_, c_q b56_, c_q b56_, c_q b56_, c_q b56_, c_F] [] _ rfl (by kernel_rfl) (by kernel_rfl) (by kernel_rfl) (by kernel_rfl) (by kernel_rfl) (by kernel_rfl), trivial⟩
    have h53_ := (if_neg j51_).symm.trans h47_
    clear h47_
    by_cases j57_ : s11 = (6)
    · have h58_ := (if_pos j57_).symm.trans h53_
      clear h53_
      subst j57_
      obtain rfl := Option.some.inj h58_
      exact ⟨step_pc 3000 (bF 1 []) [] [c_F] [] _ rfl (by kernel_rfl) (by kernel_rfl) (by kernel_rfl) (by kernel_rfl) (by kernel_rfl) (by kernel_rfl), by kernel_rfl, by kernel_rfl⟩
    have h59_ := (if_neg j57_).symm.trans h53_
    clear h53_
    cases h59_
  | .next (_ + 1) _, _, h => by cases h
  | .out _ _, _, h => by cases h
theorem covers_L2_go (pn : ByteArray) (pp p0 p1 p2 p3 p4 p5 p6 p7 p8 p9 p10 p11 : Int) (qn : ByteArray) (qp q0 q1 q2 q3 q4 q5 q6 q7 q8 q9 q10 q11 : Int)  {q : Nat} {ds : List D} {j : Nat} {es : List D} (h : runR (covers_L2_S pn pp p0 p1 p2 p3 p4 p5 p6 p7 p8 p9 p10 p11 qn qp q0 q1 q2 q3 q4 q5 q6 q7 q8 q9 q10 q11) (.next q ds) = some (.out j es)) : Runs (ctx [152] covers_sp) Tabs covers_L2_A (stateOf (covers_L2_gs pn pp p0 p1 p2 p3 p4 p5 p6 p7 p8 p9 p10 p11 qn qp q0 q1 q2 q3 q4 q5 q6 q7 q8 q9 q10 q11 (.next q ds))) (stateOf (covers_L2_gs pn pp p0 p1 p2 p3 p4 p5 p6 p7 p8 p9 p10 p11 qn qp q0 q1 q2 q3 q4 q5 q6 q7 q8 q9 q10 q11 (.out j es))) (covers_L2_ax (.out j es)) ∧ (nxtOf (covers_L2_gs pn pp p0 p1 p2 p3 p4 p5 p6 p7 p8 p9 p10 p11 qn qp q0 q1 q2 q3 q4 q5 q6 q7 q8 q9 q10 q11 (.out j es)), lowGS (covers_L2_gs pn pp p0 p1 p2 p3 p4 p5 p6 p7 p8 p9 p10 p11 qn qp q0 q1 q2 q3 q4 q5 q6 q7 q8 q9 q10 q11 (.out j es))) = (covers_L2_A.nx, covers_L2_A.low) :=
  runs_of' (good true _ _) covers_L2_ok (ax := covers_L2_ax) (fun _ _ => rfl) (fun _ _ => axOf_end _) (covers_L2_S_ok pn pp p0 p1 p2 p3 p4 p5 p6 p7 p8 p9 p10 p11 qn qp q0 q1 q2 q3 q4 q5 q6 q7 q8 q9 q10 q11) h
theorem covers_L2_in0 (pn : ByteArray) (pp p0 p1 p2 p3 p4 p5 p6 p7 p8 p9 p10 p11 : Int) (qn : ByteArray) (qp q0 q1 q2 q3 q4 q5 q6 q7 q8 q9 q10 q11 : Int)  {es : List D} (h : runR (covers_L2_S pn pp p0 p1 p2 p3 p4 p5 p6 p7 p8 p9 p10 p11 qn qp q0 q1 q2 q3 q4 q5 q6 q7 q8 q9 q10 q11) (.next 0 [.one (.int .i64 ((0 : Int)))]) = some (.out 0 es)) : LoopC (loopAt Tryd.prog 152 0) (covers_L2_E pn pp p0 p1 p2 p3 p4 p5 p6 p7 p8 p9 p10 p11 qn qp q0 q1 q2 q3 q4 q5 q6 q7 q8 q9 q10 q11) 2 noFrame covers_x2_0 es :=
  have r := covers_L2_go pn pp p0 p1 p2 p3 p4 p5 p6 p7 p8 p9 p10 p11 qn qp q0 q1 q2 q3 q4 q5 q6 q7 q8 q9 q10 q11 h
  loopin_as rfl (loop_in (l := covers_L2_A) (E := (covers_L2_E pn pp p0 p1 p2 p3 p4 p5 p6 p7 p8 p9 p10 p11 qn qp q0 q1 q2 q3 q4 q5 q6 q7 q8 q9 q10 q11)) (S := stateOf (covers_L2_gs pn pp p0 p1 p2 p3 p4 p5 p6 p7 p8 p9 p10 p11 qn qp q0 q1 q2 q3 q4 q5 q6 q7 q8 q9 q10 q11 (.next 0 [.one (.int .i64 ((0 : Int)))]))) (ns := nsOf (covers_L2_gs pn pp p0 p1 p2 p3 p4 p5 p6 p7 p8 p9 p10 p11 qn qp q0 q1 q2 q3 q4 q5 q6 q7 q8 q9 q10 q11 (.next 0 [.one (.int .i64 ((0 : Int)))]))) covers_L2_ok r.1 r.2 (by kernel_rfl) (by kernel_rfl) (by kernel_rfl) (by kernel_rfl))
theorem covers_L2_in1 (pn : ByteArray) (pp p0 p1 p2 p3 p4 p5 p6 p7 p8 p9 p10 p11 : Int) (qn : ByteArray) (qp q0 q1 q2 q3 q4 q5 q6 q7 q8 q9 q10 q11 : Int)  {es : List D} (h : runR (covers_L2_S pn pp p0 p1 p2 p3 p4 p5 p6 p7 p8 p9 p10 p11 qn qp q0 q1 q2 q3 q4 q5 q6 q7 q8 q9 q10 q11) (.next 0 [.one (.int .i64 ((0 : Int)))]) = some (.out 1 es)) : LoopC (loopAt Tryd.prog 152 0) (covers_L2_E pn pp p0 p1 p2 p3 p4 p5 p6 p7 p8 p9 p10 p11 qn qp q0 q1 q2 q3 q4 q5 q6 q7 q8 q9 q10 q11) 2 noFrame covers_x2_1 es :=
  have r := covers_L2_go pn pp p0 p1 p2 p3 p4 p5 p6 p7 p8 p9 p10 p11 qn qp q0 q1 q2 q3 q4 q5 q6 q7 q8 q9 q10 q11 h
  loopin_as rfl (loop_in (l := covers_L2_A) (E := (covers_L2_E pn pp p0 p1 p2 p3 p4 p5 p6 p7 p8 p9 p10 p11 qn qp q0 q1 q2 q3 q4 q5 q6 q7 q8 q9 q10 q11)) (S := stateOf (covers_L2_gs pn pp p0 p1 p2 p3 p4 p5 p6 p7 p8 p9 p10 p11 qn qp q0 q1 q2 q3 q4 q5 q6 q7 q8 q9 q10 q11 (.next 0 [.one (.int .i64 ((0 : Int)))]))) (ns := nsOf (covers_L2_gs pn pp p0 p1 p2 p3 p4 p5 p6 p7 p8 p9 p10 p11 qn qp q0 q1 q2 q3 q4 q5 q6 q7 q8 q9 q10 q11 (.next 0 [.one (.int .i64 ((0 : Int)))]))) covers_L2_ok r.1 r.2 (by kernel_rfl) (by kernel_rfl) (by kernel_rfl) (by kernel_rfl))
def covers_M (pn : ByteArray) (pp p0 p1 p2 p3 p4 p5 p6 p7 p8 p9 p10 p11 : Int) (qn : ByteArray) (qp q0 q1 q2 q3 q4 q5 q6 q7 q8 q9 q10 q11 : Int) : Option D := bindL (runR (covers_L2_S pn pp p0 p1 p2 p3 p4 p5 p6 p7 p8 p9 p10 p11 qn qp q0 q1 q2 q3 q4 q5 q6 q7 q8 q9 q10 q11) (.next 0 [.one (.int .i64 ((0 : Int)))])) fun j ds => (if j = 0 then pullD (some (.tup ds)) (fun _ => ()) (fun _ => .tup []) fun _ => (some (.one (.bool (decide (pp ≤ qp))))) else if j = 1 then pullD (α := Bool) (some (.tup ds)) (fun d => ((D.vb (D.at d 0)))) (fun l0 => .tup [.one (.bool l0)]) fun l0 => (some (.one (.bool l0))) else none)
theorem covers_M_ok (pn : ByteArray) (pp p0 p1 p2 p3 p4 p5 p6 p7 p8 p9 p10 p11 : Int) (qn : ByteArray) (qp q0 q1 q2 q3 q4 q5 q6 q7 q8 q9 q10 q11 : Int) {r : D} (h : covers_M pn pp p0 p1 p2 p3 p4 p5 p6 p7 p8 p9 p10 p11 qn qp q0 q1 q2 q3 q4 q5 q6 q7 q8 q9 q10 q11 = some r) : Con 152 [(shND2_0 pn pp p0 p1 p2 p3 p4 p5 p6 p7 p8 p9 p10 p11), (shND2_0 qn qp q0 q1 q2 q3 q4 q5 q6 q7 q8 q9 q10 q11)] r := by
  unfold covers_M at h
  obtain ⟨j, ds, e1_, h2_⟩ := bindL_elim h
  by_cases j3_ : j = 0
  · have h6_ := (if_pos j3_).symm.trans h2_
    clear h2_
    subst j3_
    obtain ⟨⟨⟩, e4_, h7_⟩ := pullD_elim h6_
    clear h6_
    obtain rfl := tup_inj e4_
    have k5_ := covers_L2_in0 pn pp p0 p1 p2 p3 p4 p5 p6 p7 p8 p9 p10 p11 qn qp q0 q1 q2 q3 q4 q5 q6 q7 q8 q9 q10 q11 e1_
    obtain rfl := Option.some.inj h7_
    exact con_pc (op := true) (I := [152]) (sp := covers_sp) 3000 [] [.tup [.one (.int .i64 (Int.ofNat 0))]] [] [k_l k5_ [] [.tup [.one (.int .i64 (Int.ofNat 0))]] []] (by kernel_rfl)
  have h8_ := (if_neg j3_).symm.trans h2_
  clear h2_
  by_cases j9_ : j = 1
  · have h12_ := (if_pos j9_).symm.trans h8_
    clear h8_
    subst j9_
    obtain ⟨l0, e10_, h13_⟩ := pullD_elim h12_
    clear h12_
    obtain rfl := tup_inj e10_
    have k11_ := covers_L2_in1 pn pp p0 p1 p2 p3 p4 p5 p6 p7 p8 p9 p10 p11 qn qp q0 q1 q2 q3 q4 q5 q6 q7 q8 q9 q10 q11 e1_
    obtain rfl := Option.some.inj h13_
    exact con_pc (op := true) (I := [152]) (sp := covers_sp) 3000 [] [.tup [.one (.int .i64 (Int.ofNat 1)), .one (.bool l0)]] [] [k_l k11_ [] [.tup [.one (.int .i64 (Int.ofNat 1)), .one (.bool l0)]] []] (by kernel_rfl)
  have h14_ := (if_neg j9_).symm.trans h8_
  clear h8_
  cases h14_
def m_152 (ds : List D) : Option D := pullD (α := ByteArray × Int × Int × Int × Int × Int × Int × Int × Int × Int × Int × Int × Int × Int × ByteArray × Int × Int × Int × Int × Int × Int × Int × Int × Int × Int × Int × Int × Int) (some (.tup ds)) (fun d => ((D.vs (D.at (D.at d 0) 0)), (D.vi (D.at (D.at d 0) 1)), (D.vi (D.at (D.at d 0) 2)), (D.vi (D.at (D.at d 0) 3)), (D.vi (D.at (D.at d 0) 4)), (D.vi (D.at (D.at d 0) 5)), (D.vi (D.at (D.at d 0) 6)), (D.vi (D.at (D.at d 0) 7)), (D.vi (D.at (D.at d 0) 8)), (D.vi (D.at (D.at d 0) 9)), (D.vi (D.at (D.at d 0) 10)), (D.vi (D.at (D.at d 0) 11)), (D.vi (D.at (D.at d 0) 12)), (D.vi (D.at (D.at d 0) 13)), (D.vs (D.at (D.at d 1) 0)), (D.vi (D.at (D.at d 1) 1)), (D.vi (D.at (D.at d 1) 2)), (D.vi (D.at (D.at d 1) 3)), (D.vi (D.at (D.at d 1) 4)), (D.vi (D.at (D.at d 1) 5)), (D.vi (D.at (D.at d 1) 6)), (D.vi (D.at (D.at d 1) 7)), (D.vi (D.at (D.at d 1) 8)), (D.vi (D.at (D.at d 1) 9)), (D.vi (D.at (D.at d 1) 10)), (D.vi (D.at (D.at d 1) 11)), (D.vi (D.at (D.at d 1) 12)), (D.vi (D.at (D.at d 1) 13)))) (fun (pn, pp, p0, p1, p2, p3, p4, p5, p6, p7, p8, p9, p10, p11, qn, qp, q0, q1, q2, q3, q4, q5, q6, q7, q8, q9, q10, q11) => .tup [(shND2_0 pn pp p0 p1 p2 p3 p4 p5 p6 p7 p8 p9 p10 p11), (shND2_0 qn qp q0 q1 q2 q3 q4 q5 q6 q7 q8 q9 q10 q11)]) fun (pn, pp, p0, p1, p2, p3, p4, p5, p6, p7, p8, p9, p10, p11, qn, qp, q0, q1, q2, q3, q4, q5, q6, q7, q8, q9, q10, q11) => covers_M pn pp p0 p1 p2 p3 p4 p5 p6 p7 p8 p9 p10 p11 qn qp q0 q1 q2 q3 q4 q5 q6 q7 q8 q9 q10 q11
theorem m_152_ok {ds : List D} {r : D} (h : m_152 ds = some r) : Con 152 ds r := by
  unfold m_152 at h
  obtain ⟨⟨pn, pp, p0, p1, p2, p3, p4, p5, p6, p7, p8, p9, p10, p11, qn, qp, q0, q1, q2, q3, q4, q5, q6, q7, q8, q9, q10, q11⟩, e0, h0⟩ := pullD_elim h
  obtain rfl := tup_inj e0
  exact covers_M_ok pn pp p0 p1 p2 p3 p4 p5 p6 p7 p8 p9 p10 p11 qn qp q0 q1 q2 q3 q4 q5 q6 q7 q8 q9 q10 q11 h0
theorem m_152_eq (pn : ByteArray) (pp p0 p1 p2 p3 p4 p5 p6 p7 p8 p9 p10 p11 : Int) (qn : ByteArray) (qp q0 q1 q2 q3 q4 q5 q6 q7 q8 q9 q10 q11 : Int) : m_152 [(shND2_0 pn pp p0 p1 p2 p3 p4 p5 p6 p7 p8 p9 p10 p11), (shND2_0 qn qp q0 q1 q2 q3 q4 q5 q6 q7 q8 q9 q10 q11)] = covers_M pn pp p0 p1 p2 p3 p4 p5 p6 p7 p8 p9 p10 p11 qn qp q0 q1 q2 q3 q4 q5 q6 q7 q8 q9 q10 q11 := pullD_some (pn, pp, p0, p1, p2, p3, p4, p5, p6, p7, p8, p9, p10, p11, qn, qp, q0, q1, q2, q3, q4, q5, q6, q7, q8, q9, q10, q11) rfl rfl
def isDom_x2_0 : LExit := ⟨some 0, [], (4 :: (5 :: (List.range' 8 30)))⟩
def isDom_x2_1 : LExit := ⟨none, [.val 4], (5 :: (List.range' 8 30))⟩
def isDom_sp : List LSpec := [⟨95, 2, [isDom_x2_0, isDom_x2_1]⟩]
def isDom_L2_E (k : Nat) (c : List D) (i : Int)  : List AV × AHeap := ([.dsl 0, .pure (.int .i64 i), .pure (.tuple #[]), .pure (.tuple #[]), .pure (.bool false), .pure (.tuple #[]), .dsl 0, .pure (.int .i64 (k : Int)), .pure (.int .i64 (0 : Int)), .pure (.tuple #[]), .pure (.tuple #[]), .pure (.tuple #[]), .pure (.tuple #[]), .pure (.tuple #[]), .pure (.tuple #[]), .pure (.tuple #[]), .pure (.tuple #[]), .pure (.tuple #[]), .pure (.tuple #[]), .pure (.tuple #[]), .pure (.tuple #[]), .pure (.tuple #[]), .pure (.tuple #[]), .pure (.tuple #[]), .pure (.tuple #[]), .pure (.tuple #[]), .pure (.tuple #[]), .pure (.tuple #[]), .pure (.tuple #[]), .pure (.tuple #[]), .pure (.tuple #[]), .pure (.tuple #[]), .pure (.tuple #[]), .pure (.tuple #[]), .pure (.tuple #[]), .pure (.tuple #[]), .pure (.tuple #[]), .pure (.tuple #[])], [(0, { cells := [], opn := none, kind := .deep k c })])
def isDom_L2_A : LoopAt := ⟨95, loopAt Tryd.prog 95 0, 1, 33, 1, noFrame⟩
theorem isDom_L2_ok : (isDom_L2_A).OK := ⟨by show 1 ≤ 33; decide, by show 1 ≤ 1; decide, by kernel_rfl, rfl⟩
def isDom_L2_gs (k : Nat) (c : List D) (i : Int)  : Go.Ev.Rd → Option GS
  | .next 0 ds => ghost [.val 8] (4 :: (5 :: (List.range' 9 29))) (isDom_L2_E k c i).1 (isDom_L2_E k c i).2 1 ds
  | .out 0 ds => ghost isDom_x2_0.live isDom_x2_0.junk (isDom_L2_E k c i).1 (isDom_L2_E k c i).2 1 ds
  | .out 1 ds => ghost isDom_x2_1.live isDom_x2_1.junk (isDom_L2_E k c i).1 (isDom_L2_E k c i).2 1 ds
  | _ => none
def isDom_L2_ex : Nat → Option Nat
  | 0 => isDom_x2_0.ex
  | 1 => isDom_x2_1.ex
  | _ => none
def isDom_L2_ax : Go.Ev.Rd → AX
  | .next _ _ => .normal
  | .out j _ => axOf (isDom_L2_ex j)
def isDom_L2_S0 (k : Nat) (c : List D) (i : Int)  (ds : List D) : Option Go.Ev.Rd := pullD (α := Int) (some (.tup ds)) (fun d => ((D.vi (D.at d 0)))) (fun s8 => .tup [.one (.int .i64 s8)]) fun s8 => ((if s8 < (k : Int) then guardP ((0 : Int) ≤ s8 ∧ s8.toNat < k) (pullD (readD c (s8.toNat * 14) 14 true) shND2_0P (fun (v0, v1, v2, v3, v4, v5, v6, v7, v8, v9, v10, v11, v12, v13) => (shND2_0 v0 v1 v2 v3 v4 v5 v6 v7 v8 v9 v10 v11 v12 v13)) fun (v0, v1, v2, v3, v4, v5, v6, v7, v8, v9, v10, v11, v12, v13) => (guardP ((0 : Int) ≤ i ∧ i.toNat < k) (pullD (readD c (i.toNat * 14) 14 true) shND2_0P (fun (v14, v15, v16, v17, v18, v19, v20, v21, v22, v23, v24, v25, v26, v27) => (shND2_0 v14 v15 v16 v17 v18 v19 v20 v21 v22 v23 v24 v25 v26 v27)) fun (v14, v15, v16, v17, v18, v19, v20, v21, v22, v23, v24, v25, v26, v27) => (pullD (α := Bool) (m_152 [(shND2_0 v0 v1 v2 v3 v4 v5 v6 v7 v8 v9 v10 v11 v12 v13), (shND2_0 v14 v15 v16 v17 v18 v19 v20 v21 v22 v23 v24 v25 v26 v27)]) (fun d => ((D.vb d))) (fun r28 => .one (.bool r28)) fun r28 => ((if (r28) = true then (if s8 < i then some (.out 1 [.one (.bool true)]) else pullD (readD c (i.toNat * 14) 14 true) shND2_0P (fun (v29, v30, v31, v32, v33, v34, v35, v36, v37, v38, v39, v40, v41, v42) => (shND2_0 v29 v30 v31 v32 v33 v34 v35 v36 v37 v38 v39 v40 v41 v42)) fun (v29, v30, v31, v32, v33, v34, v35, v36, v37, v38, v39, v40, v41, v42) => (pullD (readD c (s8.toNat * 14) 14 true) shND2_0P (fun (v43, v44, v45, v46, v47, v48, v49, v50, v51, v52, v53, v54, v55, v56) => (shND2_0 v43 v44 v45 v46 v47 v48 v49 v50 v51 v52 v53 v54 v55 v56)) fun (v43, v44, v45, v46, v47, v48, v49, v50, v51, v52, v53, v54, v55, v56) => (pullD (α := Bool) (m_152 [(shND2_0 v29 v30 v31 v32 v33 v34 v35 v36 v37 v38 v39 v40 v41 v42), (shND2_0 v43 v44 v45 v46 v47 v48 v49 v50 v51 v52 v53 v54 v55 v56)]) (fun d => ((D.vb d))) (fun r57 => .one (.bool r57)) fun r57 => ((if r57 = false then some (.out 1 [.one (.bool true)]) else some (.next 0 [.one (.int .i64 (IntKind.i64.wrap (s8 + (1 : Int))))])))))) else some (.next 0 [.one (.int .i64 (IntKind.i64.wrap (s8 + (1 : Int))))]))))))) else some (.out 0 [])))
def isDom_L2_S (k : Nat) (c : List D) (i : Int)  : Go.Ev.Rd → Option Go.Ev.Rd
  | .next 0 ds => isDom_L2_S0 k c i ds
  | _ => none
theorem isDom_L2_S_0 (k : Nat) (c : List D) (i : Int)  (ds : List D) : isDom_L2_S k c i (.next 0 ds) = isDom_L2_S0 k c i ds := rfl
theorem isDom_L2_S_ok (k : Nat) (c : List D) (i : Int)  : ∀ s_ t_, isDom_L2_S k c i s_ = some t_ → Step (ctx [95] isDom_sp) Tabs isDom_L2_A (stateOf (isDom_L2_gs k c i s_)) (stateOf (isDom_L2_gs k c i t_)) (isDom_L2_ax t_) ∧ EndOK isDom_L2_A.nx isDom_L2_A.low (isDom_L2_gs k c i) t_
  | .next 0 ds, t_, h => by
    have h_ : isDom_L2_S0 k c i ds = some t_ := h
    clear h
    unfold isDom_L2_S0 at h_
    obtain ⟨s8, e0, h0⟩ := pullD_elim h_
    clear h_
    obtain rfl := tup_inj e0
    by_cases b1_ : s8 < (k : Int)
    · have h2_ := (if_pos b1_).symm.trans h0
      obtain ⟨f3_, h4_⟩ := guardP_elim h2_
      obtain ⟨⟨v0, v1, v2, v3, v4, v5, v6, v7, v8, v9, v10, v11, v12, v13⟩, f5_, h6_⟩ := pullD_elim h4_
      replace f5_ := readD_elim f5_
      obtain ⟨f7_, h8_⟩ := guardP_elim h6_
      obtain ⟨⟨v14, v15, v16, v17, v18, v19, v20, v21, v22, v23, v24, v25, v26, v27⟩, f9_, h10_⟩ := pullD_elim h8_
      replace f9_ := readD_elim f9_
      obtain ⟨r28, f11_, h12_⟩ := pullD_elim h10_
      replace f11_ := m_152_ok f11_
      by_cases b13_ : (r28) = true
      · have h14_ := (if_pos b13_).symm.trans h12_
        by_cases b15_ : s8 < i
        · have h16_ := (if_pos b15_).symm.trans h14_
          obtain rfl := Option.some.inj h16_
          exact ⟨step_pc 3000 (bT 19 []) [(shND2_0 v0 v1 v2 v3 v4 v5 v6 v7 v8 v9 v10 v11 v12 v13), (shND2_0 v14 v15 v16 v17 v18 v19 v20 v21 v22 v23 v24 v25 v26 v27), .one (.bool r28)] [c_d b1_, c_f f3_, c_f f5_, c_f f7_, c_f f9_, c_q b13_, c_q b13_, c_q b13_, c_q b13_, c_d b15_, c_d b15_, c_d b15_, c_d b15_, c_d b15_, c_d b15_, c_d b15_, c_d b15_, c_d b15_, c_d b15_, c_q b13_, c_d b15_, c_q b13_, c_T] [k_c f11_] _ rfl (by kernel_rfl) (by kernel_rfl) (by kernel_rfl) (by kernel_rfl) (by kernel_rfl) (by kernel_rfl), by kernel_rfl, by kernel_rfl⟩
        · have h16_ := (if_neg b15_).symm.trans h14_
          obtain ⟨⟨v29, v30, v31, v32, v33, v34, v35, v36, v37, v38, v39, v40, v41, v42⟩, f17_, h18_⟩ := pullD_elim h16_
          replace f17_ := readD_elim f17_
          obtain ⟨⟨v43, v44, v45, v46, v47, v48, v49, v50, v51, v52, v53, v54, v55, v56⟩, f19_, h20_⟩ := pullD_elim h18_
          replace f19_ := readD_elim f19_
          obtain ⟨r57, f21_, h22_⟩ := pullD_elim h20_
          replace f21_ := m_152_ok f21_
          by_cases b23_ : r57 = false
          · have h24_ := (if_pos b23_).symm.trans h22_
            obtain rfl := Option.some.inj h24_
            exact ⟨step_pc 3000 (bT 5 (bF 10 (bT 1 (bF 1 (bT 2 []))))) [(shND2_0 v0 v1 v2 v3 v4 v5 v6 v7 v8 v9 v10 v11 v12 v13), (shND2_0 v14 v15 v16 v17 v18 v19 v20 v21 v22 v23 v24 v25 v26 v27), .one (.bool r28), (shND2_0 v29 v30 v31 v32 v33 v34 v35 v36 v37 v38 v39 v40 v41 v42), (shND2_0 v43 v44 v45 v46 v47 v48 v49 v50 v51 v52 v53 v54 v55 v56), .one (.bool r57)] [c_d b1_, c_f f3_, c_f f5_, c_f f7_, c_f f9_, c_q b13_, c_q b13_, c_q b13_, c_q b13_, c_n b15_, c_n b15_, c_n b15_, c_f f7_, c_n b15_, c_f f17_, c_n b15_, c_n b15_, c_n b15_, c_f f3_, c_n b15_, c_f f19_, c_n b15_, c_n b15_, c_q b13_, c_n b15_, c_q b13_, c_no b23_] [k_c f11_, k_c f21_] _ rfl (by kernel_rfl) (by kernel_rfl) (by kernel_rfl) (by kernel_rfl) (by kernel_rfl) (by kernel_rfl), by kernel_rfl, by kernel_rfl⟩
          · have h24_ := (if_neg b23_).symm.trans h22_
            have b25_ : r57 = true := by first | exact b23_ | simpa using b23_
            obtain rfl := Option.some.inj h24_
            exact ⟨step_pc 3000 (bT 5 (bF 10 (bT 1 (bF 1 (bT 1 (bF 1 [])))))) [(shND2_0 v0 v1 v2 v3 v4 v5 v6 v7 v8 v9 v10 v11 v12 v13), (shND2_0 v14 v15 v16 v17 v18 v19 v20 v21 v22 v23 v24 v25 v26 v27), .one (.bool r28), (shND2_0 v29 v30 v31 v32 v33 v34 v35 v36 v37 v38 v39 v40 v41 v42), (shND2_0 v43 v44 v45 v46 v47 v48 v49 v50 v51 v52 v53 v54 v55 v56), .one (.bool r57)] [c_d b1_, c_f f3_, c_f f5_, c_f f7_, c_f f9_, c_q b13_, c_q b13_, c_q b13_, c_q b13_, c_n b15_, c_n b15_, c_n b15_, c_f f7_, c_n b15_, c_f f17_, c_n b15_, c_n b15_, c_n b15_, c_f f3_, c_n b15_, c_f f19_, c_n b15_, c_n b15_, c_q b13_, c_n b15_, c_q b13_, c_nn b25_] [k_c f11_, k_c f21_] _ rfl (by kernel_rfl) (by kernel_rfl) (by kernel_rfl) (by kernel_rfl) (by kernel_rfl) (by kernel_rfl), trivial⟩
      · have h14_ := (if_neg b13_).symm.trans h12_
        have b26_ : (r28) = false := by first | exact b13_ | simpa using b13_
        obtain rfl := Option.some.inj h14_
        exact ⟨step_pc 3000 (bT 1 (bF 7 [])) [(shND2_0 v0 v1 v2 v3 v4 v5 v6 v7 v8 v9 v10 v11 v12 v13), (shND2_0 v14 v15 v16 v17 v18 v19 v20 v21 v22 v23 v24 v25 v26 v27), .one (.bool r28)] [c_d b1_, c_f f3_, c_f f5_, c_f f7_, c_f f9_, c_q b26_, c_q b26_, c_q b26_, c_q b26_, c_q b26_, c_q b26_, c_F] [k_c f11_] _ rfl (by kernel_rfl) (by kernel_rfl) (by kernel_rfl) (by kernel_rfl) (by kernel_rfl) (by kernel_rfl), trivial⟩
    · have h2_ := (if_neg b1_).symm.trans h0
      obtain rfl := Option.some.inj h2_
      exact ⟨step_pc 3000 (bF 1 []) [] [c_n b1_] [] _ rfl (by kernel_rfl) (by kernel_rfl) (by kernel_rfl) (by kernel_rfl) (by kernel_rfl) (by kernel_rfl), by kernel_rfl, by kernel_rfl⟩
  | .next (_ + 1) _, _, h => by cases h
  | .out _ _, _, h => by cases h
theorem isDom_L2_go (k : Nat) (c : List D) (i : Int)  {q : Nat} {ds : List D} {j : Nat} {es : List D} (h : runR (isDom_L2_S k c i) (.next q ds) = some (.out j es)) : Runs (ctx [95] isDom_sp) Tabs isDom_L2_A (stateOf (isDom_L2_gs k c i (.next q ds))) (stateOf (isDom_L2_gs k c i (.out j es))) (isDom_L2_ax (.out j es)) ∧ (nxtOf (isDom_L2_gs k c i (.out j es)), lowGS (isDom_L2_gs k c i (.out j es))) = (isDom_L2_A.nx, isDom_L2_A.low) :=
  runs_of' (good true _ _) isDom_L2_ok (ax := isDom_L2_ax) (fun _ _ => rfl) (fun _ _ => axOf_end _) (isDom_L2_S_ok k c i) h
theorem isDom_L2_in0 (k : Nat) (c : List D) (i : Int)  {es : List D} (h : runR (isDom_L2_S k c i) (.next 0 [.one (.int .i64 ((0 : Int)))]) = some (.out 0 es)) : LoopC (loopAt Tryd.prog 95 0) (isDom_L2_E k c i) 1 noFrame isDom_x2_0 es :=
  have r := isDom_L2_go k c i h
  loopin_as rfl (loop_in (l := isDom_L2_A) (E := (isDom_L2_E k c i)) (S := stateOf (isDom_L2_gs k c i (.next 0 [.one (.int .i64 ((0 : Int)))]))) (ns := nsOf (isDom_L2_gs k c i (.next 0 [.one (.int .i64 ((0 : Int)))]))) isDom_L2_ok r.1 r.2 (by kernel_rfl) (by kernel_rfl) (by kernel_rfl) (by kernel_rfl))
theorem isDom_L2_in1 (k : Nat) (c : List D) (i : Int)  {es : List D} (h : runR (isDom_L2_S k c i) (.next 0 [.one (.int .i64 ((0 : Int)))]) = some (.out 1 es)) : LoopC (loopAt Tryd.prog 95 0) (isDom_L2_E k c i) 1 noFrame isDom_x2_1 es :=
  have r := isDom_L2_go k c i h
  loopin_as rfl (loop_in (l := isDom_L2_A) (E := (isDom_L2_E k c i)) (S := stateOf (isDom_L2_gs k c i (.next 0 [.one (.int .i64 ((0 : Int)))]))) (ns := nsOf (isDom_L2_gs k c i (.next 0 [.one (.int .i64 ((0 : Int)))]))) isDom_L2_ok r.1 r.2 (by kernel_rfl) (by kernel_rfl) (by kernel_rfl) (by kernel_rfl))
def isDom_M (k : Nat) (c : List D) (i : Int) : Option D := bindL (runR (isDom_L2_S k c i) (.next 0 [.one (.int .i64 ((0 : Int)))])) fun j ds => (if j = 0 then pullD (some (.tup ds)) (fun _ => ()) (fun _ => .tup []) fun _ => (some (.one (.bool false))) else if j = 1 then pullD (α := Bool) (some (.tup ds)) (fun d => ((D.vb (D.at d 0)))) (fun l0 => .tup [.one (.bool l0)]) fun l0 => (some (.one (.bool l0))) else none)
theorem isDom_M_ok (k : Nat) (c : List D) (i : Int) {r : D} (h : isDom_M k c i = some r) : Con 95 [.list k c, .one (.int .i64 i)] r := by
  unfold isDom_M at h
  obtain ⟨j, ds, e1_, h2_⟩ := bindL_elim h
  by_cases j3_ : j = 0
  · have h6_ := (if_pos j3_).symm.trans h2_
    clear h2_
    subst j3_
    obtain ⟨⟨⟩, e4_, h7_⟩ := pullD_elim h6_
    clear h6_
    obtain rfl := tup_inj e4_
    have k5_ := isDom_L2_in0 k c i e1_
    obtain rfl := Option.some.inj h7_
    exact con_pc (op := true) (I := [95]) (sp := isDom_sp) 3000 [] [.tup [.one (.int .i64 (Int.ofNat 0))]] [] [k_l k5_ [] [.tup [.one (.int .i64 (Int.ofNat 0))]] []] (by kernel_rfl)
  have h8_ := (if_neg j3_).symm.trans h2_
  clear h2_
  by_cases j9_ : j = 1
  · have h12_ := (if_pos j9_).symm.trans h8_
    clear h8_
    subst j9_
    obtain ⟨l0, e10_, h13_⟩ := pullD_elim h12_
    clear h12_
    obtain rfl := tup_inj e10_
    have k11_ := isDom_L2_in1 k c i e1_
    obtain rfl := Option.some.inj h13_
    exact con_pc (op := true) (I := [95]) (sp := isDom_sp) 3000 [] [.tup [.one (.int .i64 (Int.ofNat 1)), .one (.bool l0)]] [] [k_l k11_ [] [.tup [.one (.int .i64 (Int.ofNat 1)), .one (.bool l0)]] []] (by kernel_rfl)
  have h14_ := (if_neg j9_).symm.trans h8_
  clear h8_
  cases h14_
def m_95 (ds : List D) : Option D := pullD (α := Nat × (List D) × Int) (some (.tup ds)) (fun d => ((D.ln (D.at d 0)), (D.lc (D.at d 0)), (D.vi (D.at d 1)))) (fun (k, c, i) => .tup [.list k c, .one (.int .i64 i)]) fun (k, c, i) => isDom_M k c i
theorem m_95_ok {ds : List D} {r : D} (h : m_95 ds = some r) : Con 95 ds r := by
  unfold m_95 at h
  obtain ⟨⟨k, c, i⟩, e0, h0⟩ := pullD_elim h
  obtain rfl := tup_inj e0
  exact isDom_M_ok k c i h0
theorem m_95_eq (k : Nat) (c : List D) (i : Int) : m_95 [.list k c, .one (.int .i64 i)] = isDom_M k c i := pullD_some (k, c, i) rfl rfl
def undom_x8_0 : LExit := ⟨some 0, [.grow 8 1], (9 :: (List.range' 33 16))⟩
def undom_x8_1 : LExit := ⟨some 0, [.nil 8], (9 :: (List.range' 33 16))⟩
def undom_sp : List LSpec := [⟨34, 8, [undom_x8_0, undom_x8_1]⟩]
def undom_L8_E (k : Nat) (c : List D) (ip pr slot : Int) (x0 : Int) (x1 : Int) (x2 : Nat) (x3 : List D) : List AV × AHeap := ([.agg [.dsl 0, .pure (.int .i64 ip), .pure (.int .i64 pr)], .pure (.int .i64 slot), .ptr 1 0, .pure (.tuple #[]), .pure (.slice none 0 0), .pure (.int .i64 (0 : Int)), .pure (.int .i64 x0), .pure (.int .i64 x1), .pure (.slice none 0 0), .pure (.tuple #[]), .pure (.tuple #[.int .i64 x0, .int .i64 x1]), .agg [.dsl 0, .pure (.int .i64 ip), .pure (.int .i64 pr)], .pure (.tuple #[.int .i64 x0, .int .i64 x1]), .pure (.int .i64 x0), .pure (.int .i64 x1), .pure (.int .i64 x1), .pure (.bool (x1 != (0 : Int))), .pure (.tuple #[]), .pure (.int .i64 slot), .pure (.bool (decide (slot < (0 : Int)))), .pure (.bool (decide (slot < (0 : Int)))), .pure (.int .i64 slot), .ptr 1 0, .dsl 0, .pure (.int .i64 (k : Int)), .pure (.bool (decide (slot ≥ (k : Int)))), .pure (.bool (decide (slot ≥ (k : Int)))), .ptr 1 0, .dsl 0, .pure (.int .i64 slot), .dptr 0 (slot.toNat * 1), .dsl 2, .pure (.int .i64 (x2 : Int)), .pure (.int .i64 (0 : Int)), .pure (.tuple #[]), .pure (.tuple #[]), .pure (.tuple #[]), .pure (.tuple #[]), .pure (.tuple #[]), .pure (.tuple #[]), .pure (.tuple #[]), .pure (.tuple #[]), .pure (.tuple #[]), .pure (.tuple #[]), .pure (.tuple #[]), .pure (.tuple #[]), .pure (.tuple #[]), .pure (.tuple #[]), .pure (.tuple #[]), .pure (.tuple #[])], [(2, { cells := [], opn := none, kind := .deep x2 x3 }), (1, { cells := [.dsl 0, .pure (.int .i64 ip), .pure (.int .i64 pr)], opn := none, kind := .cells }), (0, { cells := [], opn := none, kind := .deep k c })])
def undom_L8_A : LoopAt := ⟨34, loopAt Tryd.prog 34 0, 3, 21, 3, noFrame⟩
theorem undom_L8_ok : (undom_L8_A).OK := ⟨by show 3 ≤ 21; decide, by show 3 ≤ 3; decide, by kernel_rfl, rfl⟩
def undom_L8_gs (k : Nat) (c : List D) (ip pr slot : Int) (x0 : Int) (x1 : Int) (x2 : Nat) (x3 : List D) : Go.Ev.Rd → Option GS
  | .next 0 ds => ghost [.grow 8 1, .val 33] (9 :: (List.range' 34 15)) (undom_L8_E k c ip pr slot x0 x1 x2 x3).1 (undom_L8_E k c ip pr slot x0 x1 x2 x3).2 3 ds
  | .next 1 ds => ghost [.nil 8, .val 33] (9 :: (List.range' 34 15)) (undom_L8_E k c ip pr slot x0 x1 x2 x3).1 (undom_L8_E k c ip pr slot x0 x1 x2 x3).2 3 ds
  | .out 0 ds => ghost undom_x8_0.live undom_x8_0.junk (undom_L8_E k c ip pr slot x0 x1 x2 x3).1 (undom_L8_E k c ip pr slot x0 x1 x2 x3).2 3 ds
  | .out 1 ds => ghost undom_x8_1.live undom_x8_1.junk (undom_L8_E k c ip pr slot x0 x1 x2 x3).1 (undom_L8_E k c ip pr slot x0 x1 x2 x3).2 3 ds
  | _ => none
def undom_L8_ex : Nat → Option Nat
  | 0 => undom_x8_0.ex
  | 1 => undom_x8_1.ex
  | _ => none
def undom_L8_ax : Go.Ev.Rd → AX
  | .next _ _ => .normal
  | .out j _ => axOf (undom_L8_ex j)
def undom_L8_S0 (k : Nat) (c : List D) (ip pr slot : Int) (x0 : Int) (x1 : Int) (x2 : Nat) (x3 : List D) (ds : List D) : Option Go.Ev.Rd := pullD (α := Nat × (List D) × Int) (some (.tup ds)) (fun d => ((D.ln (D.at d 0)), (D.lc (D.at d 0)), (D.vi (D.at d 1)))) (fun (s8n, s8c, s33) => .tup [.list s8n s8c, .one (.int .i64 s33)]) fun (s8n, s8c, s33) => ((if s33 < (x2 : Int) then guardP ((0 : Int) ≤ slot ∧ slot.toNat < k) (pullD (α := Nat × (List D)) (readD c (slot.toNat * 1) 1 false) (fun d => ((D.ln d), (D.lc d))) (fun (k0, c1) => .list k0 c1) fun (k0, c1) => (pullD (α := Bool) (m_95 [.list k0 c1, .one (.int .i64 s33)]) (fun d => ((D.vb d))) (fun r2 => .one (.bool r2)) fun r2 => ((if r2 = false then guardP ((∀ (u : D), u ∈ [dCell (.int .i64 s33)] → cellD u) ∧ s8n * 1 ≤ s8c.length ∧ (s8n + (0 + 1)) * 8 ≤ 140737488355328 ∧ s8n + (0 + 1) ≤ 4611686018427387904) (some (.next 0 [.list (s8n + (0 + 1)) (List.append (List.take (s8n * 1) s8c) [dCell (.int .i64 s33)]), .one (.int .i64 (IntKind.i64.wrap (s33 + (1 : Int))))])) else some (.next 0 [.list s8n s8c, .one (.int .i64 (IntKind.i64.wrap (s33 + (1 : Int))))]))))) else some (.out 0 [.list s8n s8c])))
def undom_L8_S1 (k : Nat) (c : List D) (ip pr slot : Int) (x0 : Int) (x1 : Int) (x2 : Nat) (x3 : List D) (ds : List D) : Option Go.Ev.Rd := pullD (α := Int) (some (.tup ds)) (fun d => ((D.vi (D.at d 1)))) (fun s33 => .tup [.one (.tuple #[]), .one (.int .i64 s33)]) fun s33 => ((if s33 < (x2 : Int) then guardP ((0 : Int) ≤ slot ∧ slot.toNat < k) (pullD (α := Nat × (List D)) (readD c (slot.toNat * 1) 1 false) (fun d => ((D.ln d), (D.lc d))) (fun (k0, c1) => .list k0 c1) fun (k0, c1) => (pullD (α := Bool) (m_95 [.list k0 c1, .one (.int .i64 s33)]) (fun d => ((D.vb d))) (fun r2 => .one (.bool r2)) fun r2 => ((if r2 = false then some (.next 0 [.list 1 [.one (.int .i64 s33)], .one (.int .i64 (IntKind.i64.wrap (s33 + (1 : Int))))]) else some (.next 1 [.one (.tuple #[]), .one (.int .i64 (IntKind.i64.wrap (s33 + (1 : Int))))]))))) else some (.out 1 [.one (.tuple #[])])))
def undom_L8_S (k : Nat) (c : List D) (ip pr slot : Int) (x0 : Int) (x1 : Int) (x2 : Nat) (x3 : List D) : Go.Ev.Rd → Option Go.Ev.Rd
  | .next 0 ds => undom_L8_S0 k c ip pr slot x0 x1 x2 x3 ds
  | .next 1 ds => undom_L8_S1 k c ip pr slot x0 x1 x2 x3 ds
  | _ => none
theorem undom_L8_S_0 (k : Nat) (c : List D) (ip pr slot : Int) (x0 : Int) (x1 : Int) (x2 : Nat) (x3 : List D) (ds : List D) : undom_L8_S k c ip pr slot x0 x1 x2 x3 (.next 0 ds) = undom_L8_S0 k c ip pr slot x0 x1 x2 x3 ds := rfl
theorem undom_L8_S_1 (k : Nat) (c : List D) (ip pr slot : Int) (x0 : Int) (x1 : Int) (x2 : Nat) (x3 : List D) (ds : List D) : undom_L8_S k c ip pr slot x0 x1 x2 x3 (.next 1 ds) = undom_L8_S1 k c ip pr slot x0 x1 x2 x3 ds := rfl
theorem undom_L8_S_ok (k : Nat) (c : List D) (ip pr slot : Int) (x0 : Int) (x1 : Int) (x2 : Nat) (x3 : List D) : ∀ s_ t_, undom_L8_S k c ip pr slot x0 x1 x2 x3 s_ = some t_ → Step (ctx [34] undom_sp) Tabs undom_L8_A (stateOf (undom_L8_gs k c ip pr slot x0 x1 x2 x3 s_)) (stateOf (undom_L8_gs k c ip pr slot x0 x1 x2 x3 t_)) (undom_L8_ax t_) ∧ EndOK undom_L8_A.nx undom_L8_A.low (undom_L8_gs k c ip pr slot x0 x1 x2 x3) t_
  | .next 0 ds, t_, h => by
    have h_ : undom_L8_S0 k c ip pr slot x0 x1 x2 x3 ds = some t_ := h
    clear h
    unfold undom_L8_S0 at h_
    obtain ⟨⟨s8n, s8c, s33⟩, e0, h0⟩ := pullD_elim h_
    clear h_
    obtain rfl := tup_inj e0
    by_cases b1_ : s33 < (x2 : Int)
    · have h2_ := (if_pos b1_).symm.trans h0
      obtain ⟨f3_, h4_⟩ := guardP_elim h2_
      obtain ⟨⟨k0, c1⟩, f5_, h6_⟩ := pullD_elim h4_
      replace f5_ := readD_elim f5_
      obtain ⟨r2, f7_, h8_⟩ := pullD_elim h6_
      replace f7_ := m_95_ok f7_
      by_cases b9_ : r2 = false
      · have h10_ := (if_pos b9_).symm.trans h8_
        obtain ⟨f11_, h12_⟩ := guardP_elim h10_
        obtain rfl := Option.some.inj h12_
        exact ⟨step_pc 3000 (bT 2 []) [.list k0 c1, .one (.bool r2)] [c_d b1_, c_f f3_, c_f f5_, c_no b9_, c_f f11_] [k_c f7_] _ rfl (by kernel_rfl) (by kernel_rfl) (by kernel_rfl) (by kernel_rfl) (by kernel_rfl) (by kernel_rfl), trivial⟩
      · have h10_ := (if_neg b9_).symm.trans h8_
        have b13_ : r2 = true := by first | exact b9_ | simpa using b9_
        obtain rfl := Option.some.inj h10_
        exact ⟨step_pc 3000 (bT 1 (bF 1 [])) [.list k0 c1, .one (.bool r2)] [c_d b1_, c_f f3_, c_f f5_, c_nn b13_] [k_c f7_] _ rfl (by kernel_rfl) (by kernel_rfl) (by kernel_rfl) (by kernel_rfl) (by kernel_rfl) (by kernel_rfl), trivial⟩
    · have h2_ := (if_neg b1_).symm.trans h0
      obtain rfl := Option.some.inj h2_
      exact ⟨step_pc 3000 (bF 1 []) [] [c_n b1_] [] _ rfl (by kernel_rfl) (by kernel_rfl) (by kernel_rfl) (by kernel_rfl) (by kernel_rfl) (by kernel_rfl), by kernel_rfl, by kernel_rfl⟩
  | .next 1 ds, t_, h => by
    have h_ : undom_L8_S1 k c ip pr slot x0 x1 x2 x3 ds = some t_ := h
    clear h
    unfold undom_L8_S1 at h_
    obtain ⟨s33, e0, h0⟩ := pullD_elim h_
    clear h_
    obtain rfl := tup_inj e0
    by_cases b1_ : s33 < (x2 : Int)
    · have h2_ := (if_pos b1_).symm.trans h0
      obtain ⟨f3_, h4_⟩ := guardP_elim h2_
      obtain ⟨⟨k0, c1⟩, f5_, h6_⟩ := pullD_elim h4_
      replace f5_ := readD_elim f5_
      obtain ⟨r2, f7_, h8_⟩ := pullD_elim h6_
      replace f7_ := m_95_ok f7_
      by_cases b9_ : r2 = false
      · have h10_ := (if_pos b9_).symm.trans h8_
        obtain rfl := Option.some.inj h10_
        exact ⟨step_pc 3000 (bT 2 []) [.list k0 c1, .one (.bool r2)] [c_d b1_, c_f f3_, c_f f5_, c_no b9_, ⟨fact (0 < 0 + 1 ∧ (0 + 1) * 8 ≤ 140737488355328 ∧ 0 + 1 ≤ 4611686018427387904), true, fact_mk (by decide)⟩] [k_c f7_] _ rfl (by kernel_rfl) (by kernel_rfl) (by kernel_rfl) (by kernel_rfl) (by kernel_rfl) (by kernel_rfl), trivial⟩
      · have h10_ := (if_neg b9_).symm.trans h8_
        have b11_ : r2 = true := by first | exact b9_ | simpa using b9_
        obtain rfl := Option.some.inj h10_
        exact ⟨step_pc 3000 (bT 1 (bF 1 [])) [.list k0 c1, .one (.bool r2)] [c_d b1_, c_f f3_, c_f f5_, c_nn b11_] [k_c f7_] _ rfl (by kernel_rfl) (by kernel_rfl) (by kernel_rfl) (by kernel_rfl) (by kernel_rfl) (by kernel_rfl), trivial⟩
    · have h2_ := (if_neg b1_).symm.trans h0
      obtain rfl := Option.some.inj h2_
      exact ⟨step_pc 3000 (bF 1 []) [] [c_n b1_] [] _ rfl (by kernel_rfl) (by kernel_rfl) (by kernel_rfl) (by kernel_rfl) (by kernel_rfl) (by kernel_rfl), by kernel_rfl, by kernel_rfl⟩
  | .next (_ + 2) _, _, h => by cases h
  | .out _ _, _, h => by cases h
theorem undom_L8_go (k : Nat) (c : List D) (ip pr slot : Int) (x0 : Int) (x1 : Int) (x2 : Nat) (x3 : List D) {q : Nat} {ds : List D} {j : Nat} {es : List D} (h : runR (undom_L8_S k c ip pr slot x0 x1 x2 x3) (.next q ds) = some (.out j es)) : Runs (ctx [34] undom_sp) Tabs undom_L8_A (stateOf (undom_L8_gs k c ip pr slot x0 x1 x2 x3 (.next q ds))) (stateOf (undom_L8_gs k c ip pr slot x0 x1 x2 x3 (.out j es))) (undom_L8_ax (.out j es)) ∧ (nxtOf (undom_L8_gs k c ip pr slot x0 x1 x2 x3 (.out j es)), lowGS (undom_L8_gs k c ip pr slot x0 x1 x2 x3 (.out j es))) = (undom_L8_A.nx, undom_L8_A.low) :=
  runs_of' (good true _ _) undom_L8_ok (ax := undom_L8_ax) (fun _ _ => rfl) (fun _ _ => axOf_end _) (undom_L8_S_ok k c ip pr slot x0 x1 x2 x3) h
theorem undom_L8_in0 (k : Nat) (c : List D) (ip pr slot : Int) (x0 : Int) (x1 : Int) (x2 : Nat) (x3 : List D) {es : List D} (h : runR (undom_L8_S k c ip pr slot x0 x1 x2 x3) (.next 1 [.one (.tuple #[]), .one (.int .i64 ((0 : Int)))]) = some (.out 0 es)) : LoopC (loopAt Tryd.prog 34 0) (undom_L8_E k c ip pr slot x0 x1 x2 x3) 3 noFrame undom_x8_0 es :=
  have r := undom_L8_go k c ip pr slot x0 x1 x2 x3 h
  loopin_as rfl (loop_in (l := undom_L8_A) (E := (undom_L8_E k c ip pr slot x0 x1 x2 x3)) (S := stateOf (undom_L8_gs k c ip pr slot x0 x1 x2 x3 (.next 1 [.one (.tuple #[]), .one (.int .i64 ((0 : Int)))]))) (ns := nsOf (undom_L8_gs k c ip pr slot x0 x1 x2 x3 (.next 1 [.one (.tuple #[]), .one (.int .i64 ((0 : Int)))]))) undom_L8_ok r.1 r.2 (by kernel_rfl) (by kernel_rfl) (by kernel_rfl) (by kernel_rfl))
theorem undom_L8_in1 (k : Nat) (c : List D) (ip pr slot : Int) (x0 : Int) (x1 : Int) (x2 : Nat) (x3 : List D) {es : List D} (h : runR (undom_L8_S k c ip pr slot x0 x1 x2 x3) (.next 1 [.one (.tuple #[]), .one (.int .i64 ((0 : Int)))]) = some (.out 1 es)) : LoopC (loopAt Tryd.prog 34 0) (undom_L8_E k c ip pr slot x0 x1 x2 x3) 3 noFrame undom_x8_1 es :=
  have r := undom_L8_go k c ip pr slot x0 x1 x2 x3 h
  loopin_as rfl (loop_in (l := undom_L8_A) (E := (undom_L8_E k c ip pr slot x0 x1 x2 x3)) (S := stateOf (undom_L8_gs k c ip pr slot x0 x1 x2 x3 (.next 1 [.one (.tuple #[]), .one (.int .i64 ((0 : Int)))]))) (ns := nsOf (undom_L8_gs k c ip pr slot x0 x1 x2 x3 (.next 1 [.one (.tuple #[]), .one (.int .i64 ((0 : Int)))]))) undom_L8_ok r.1 r.2 (by kernel_rfl) (by kernel_rfl) (by kernel_rfl) (by kernel_rfl))
def undom_M (k : Nat) (c : List D) (ip pr slot : Int) : Option D := pullD (α := Int × Int) (m_32 [.agg [.list k c, .one (.int .i64 ip), .one (.int .i64 pr)]]) (fun d => ((D.vi (D.at d 0)), (D.vi (D.at d 1)))) (fun (r0, r1) => .tup [.one (.int .i64 r0), .one (.int .i64 r1)]) fun (r0, r1) => ((if r1 ≠ (0 : Int) then some (.tup [.list 0 [], .one (.int .i64 r1)]) else (if slot < (0 : Int) then some (.tup [.list 0 [], .one (.int .i64 (6 : Int))]) else (if slot ≥ (k : Int) then some (.tup [.list 0 [], .one (.int .i64 (6 : Int))]) else guardP ((0 : Int) ≤ slot ∧ slot.toNat < k) (pullD (α := Nat × (List D)) (readD c (slot.toNat * 1) 1 false) (fun d => ((D.ln d), (D.lc d))) (fun (k2, c3) => .list k2 c3) fun (k2, c3) => (bindL (runR (undom_L8_S k c ip pr slot r0 r1 k2 c3) (.next 1 [.one (.tuple #[]), .one (.int .i64 ((0 : Int)))])) fun j ds => (if j = 0 then pullD (α := Nat × (List D)) (some (.tup ds)) (fun d => ((D.ln (D.at d 0)), (D.lc (D.at d 0)))) (fun (k4, c5) => .tup [.list k4 c5]) fun (k4, c5) => (guardP ((0 + k4) * 1 ≤ c5.length ∧ 0 < 1) (some (.tup [.list k4 c5, .one (.int .i64 (0 : Int))]))) else if j = 1 then pullD (some (.tup ds)) (fun _ => ()) (fun _ => .tup [.one (.tuple #[])]) fun _ => (some (.tup [.list 0 [], .one (.int .i64 (0 : Int))])) else none)))))))
theorem undom_M_ok (k : Nat) (c : List D) (ip pr slot : Int) {r : D} (h : undom_M k c ip pr slot = some r) : Con 34 [.agg [.list k c, .one (.int .i64 ip), .one (.int .i64 pr)], .one (.int .i64 slot)] r := by
  unfold undom_M at h
  obtain ⟨⟨r0, r1⟩, f1_, h2_⟩ := pullD_elim h
  replace f1_ := m_32_ok f1_
  by_cases b3_ : r1 ≠ (0 : Int)
  · have h4_ := (if_pos b3_).symm.trans h2_
    obtain rfl := Option.some.inj h4_
    exact con_pc (op := true) (I := [34]) (sp := undom_sp) 3000 (bT 1 []) [.tup [.one (.int .i64 r0), .one (.int .i64 r1)]] [c_b b3_] [k_c f1_] (by kernel_rfl)
  · have h4_ := (if_neg b3_).symm.trans h2_
    have b5_ : r1 = (0 : Int) := by first | exact b3_ | simpa using b3_
    by_cases b6_ : slot < (0 : Int)
    · have h7_ := (if_pos b6_).symm.trans h4_
      obtain rfl := Option.some.inj h7_
      exact con_pc (op := true) (I := [34]) (sp := undom_sp) 3000 (bF 1 (bT 7 [])) [.tup [.one (.int .i64 r0), .one (.int .i64 r1)]] [c_bn b5_, c_d b6_, c_d b6_, c_d b6_, c_d b6_, c_d b6_, c_d b6_, c_T] [k_c f1_] (by kernel_rfl)
    · have h7_ := (if_neg b6_).symm.trans h4_
      by_cases b8_ : slot ≥ (k : Int)
      · have h9_ := (if_pos b8_).symm.trans h7_
        obtain rfl := Option.some.inj h9_
        exact con_pc (op := true) (I := [34]) (sp := undom_sp) 3000 (bF 7 (bT 1 [])) [.tup [.one (.int .i64 r0), .one (.int .i64 r1)]] [c_bn b5_, c_n b6_, c_n b6_, c_n b6_, c_n b6_, c_n b6_, c_n b6_, c_d b8_] [k_c f1_] (by kernel_rfl)
      · have h9_ := (if_neg b8_).symm.trans h7_
        obtain ⟨f10_, h11_⟩ := guardP_elim h9_
        obtain ⟨⟨k2, c3⟩, f12_, h13_⟩ := pullD_elim h11_
        replace f12_ := readD_elim f12_
        obtain ⟨j, ds, e14_, h15_⟩ := bindL_elim h13_
        by_cases j16_ : j = 0
        · have h19_ := (if_pos j16_).symm.trans h15_
          clear h15_
          subst j16_
          obtain ⟨⟨k4, c5⟩, e17_, h20_⟩ := pullD_elim h19_
          clear h19_
          obtain rfl := tup_inj e17_
          have k18_ := undom_L8_in0 k c ip pr slot r0 r1 k2 c3 e14_
          obtain ⟨f21_, h22_⟩ := guardP_elim h20_
          obtain rfl := Option.some.inj h22_
          exact con_pc (op := true) (I := [34]) (sp := undom_sp) 3000 (bF 8 []) [.tup [.one (.int .i64 r0), .one (.int .i64 r1)], .list k2 c3, .tup [.one (.int .i64 (Int.ofNat 0)), .list k4 c5]] [c_bn b5_, c_n b6_, c_n b6_, c_n b6_, c_n b6_, c_n b6_, c_n b6_, c_n b8_, c_f f10_, c_f f12_, c_f f21_] [k_c f1_, k_l k18_ [] [.tup [.one (.int .i64 (Int.ofNat 0)), .list k4 c5]] []] (by kernel_rfl)
        have h23_ := (if_neg j16_).symm.trans h15_
        clear h15_
        by_cases j24_ : j = 1
        · have h27_ := (if_pos j24_).symm.trans h23_
          clear h23_
          subst j24_
          obtain ⟨⟨⟩, e25_, h28_⟩ := pullD_elim h27_
          clear h27_
          obtain rfl := tup_inj e25_
          have k26_ := undom_L8_in1 k c ip pr slot r0 r1 k2 c3 e14_
          obtain rfl := Option.some.inj h28_
          exact con_pc (op := true) (I := [34]) (sp := undom_sp) 3000 (bF 8 []) [.tup [.one (.int .i64 r0), .one (.int .i64 r1)], .list k2 c3, .tup [.one (.int .i64 (Int.ofNat 1)), .one (.tuple #[])]] [c_bn b5_, c_n b6_, c_n b6_, c_n b6_, c_n b6_, c_n b6_, c_n b6_, c_n b8_, c_f f10_, c_f f12_] [k_c f1_, k_l k26_ [] [.tup [.one (.int .i64 (Int.ofNat 1)), .one (.tuple #[])]] []] (by kernel_rfl)
        have h29_ := (if_neg j24_).symm.trans h23_
        clear h23_
        cases h29_
def m_34 (ds : List D) : Option D := pullD (α := Nat × (List D) × Int × Int × Int) (some (.tup ds)) (fun d => ((D.ln (D.at (D.at d 0) 0)), (D.lc (D.at (D.at d 0) 0)), (D.vi (D.at (D.at d 0) 1)), (D.vi (D.at (D.at d 0) 2)), (D.vi (D.at d 1)))) (fun (k, c, ip, pr, slot) => .tup [.agg [.list k c, .one (.int .i64 ip), .one (.int .i64 pr)], .one (.int .i64 slot)]) fun (k, c, ip, pr, slot) => undom_M k c ip pr slot
theorem m_34_ok {ds : List D} {r : D} (h : m_34 ds = some r) : Con 34 ds r := by
  unfold m_34 at h
  obtain ⟨⟨k, c, ip, pr, slot⟩, e0, h0⟩ := pullD_elim h
  obtain rfl := tup_inj e0
  exact undom_M_ok k c ip pr slot h0
theorem m_34_eq (k : Nat) (c : List D) (ip pr slot : Int) : m_34 [.agg [.list k c, .one (.int .i64 ip), .one (.int .i64 pr)], .one (.int .i64 slot)] = undom_M k c ip pr slot := pullD_some (k, c, ip, pr, slot) rfl rfl
def slotErr_x6_0 : LExit := ⟨some 0, [], (List.range' 2 4 ++ (List.range' 12 37))⟩
def slotErr_x6_1 : LExit := ⟨none, [.val 2], (3 :: (4 :: (5 :: (List.range' 12 37))))⟩
def slotErr_x11_0 : LExit := ⟨some 2, [], (2 :: (4 :: (List.range' 25 16)))⟩
def slotErr_x11_1 : LExit := ⟨none, [.val 2], (4 :: (List.range' 25 16))⟩
def slotErr_sp : List LSpec := [⟨96, 6, [slotErr_x6_0, slotErr_x6_1]⟩, ⟨96, 11, [slotErr_x11_0, slotErr_x11_1]⟩]
def slotErr_L11_E (k : Nat) (c : List D) (x0 : Int) (x1 : ByteArray) (x2 : Bool) : List AV × AHeap := ([.dsl 0, .pure (.tuple #[]), .any 1, .pure (.int .i64 x0), .pure (.int .i64 (0 : Int)), .any 3, .dsl 0, .pure (.int .i64 (k : Int)), .pure (.bool ((k : Int) == (0 : Int))), .dsl 0, .pure (.int .i64 (k : Int)), .pure (.bool (decide ((k : Int) > (6 : Int)))), .pure (.int .i64 x0), .dsl 0, .pure (.int .i64 (k : Int)), .pure (.bool (decide (x0 < (k : Int)))), .any 8, .any 9, .dsl 0, .pure (.int .i64 x0), .dptr 0 (x0.toNat * 14), .dptr 0 (x0.toNat * 14 + 0), .pure (.string x1), .pure (.bool x2), .pure (.bool !x2), .any 17, .any 18, .any 19, .any 20, .any 21, .any 22, .any 23, .any 24, .any 25, .any 26, .any 27, .any 28, .any 29, .any 30, .any 31, .any 32, .any 33, .any 34, .any 35, .any 36, .any 37, .any 38, .any 39, .any 40], [(0, { cells := [], opn := none, kind := .deep k c })])
def slotErr_L11_A : LoopAt := ⟨96, loopAt Tryd.prog 96 1, 42, 60, 42, noFrame⟩
theorem slotErr_L11_ok : (slotErr_L11_A).OK := ⟨by show 42 ≤ 60; decide, by show 42 ≤ 42; decide, by kernel_rfl, rfl⟩
def slotErr_L11_gs (k : Nat) (c : List D) (x0 : Int) (x1 : ByteArray) (x2 : Bool) : Go.Ev.Rd → Option GS
  | .next 0 ds => ghost [.val 4] (2 :: (List.range' 25 16)) (slotErr_L11_E k c x0 x1 x2).1 (slotErr_L11_E k c x0 x1 x2).2 42 ds
  | .out 0 ds => ghost slotErr_x11_0.live slotErr_x11_0.junk (slotErr_L11_E k c x0 x1 x2).1 (slotErr_L11_E k c x0 x1 x2).2 42 ds
  | .out 1 ds => ghost slotErr_x11_1.live slotErr_x11_1.junk (slotErr_L11_E k c x0 x1 x2).1 (slotErr_L11_E k c x0 x1 x2).2 42 ds
  | _ => none
def slotErr_L11_ex : Nat → Option Nat
  | 0 => slotErr_x11_0.ex
  | 1 => slotErr_x11_1.ex
  | _ => none
def slotErr_L11_ax : Go.Ev.Rd → AX
  | .next _ _ => .normal
  | .out j _ => axOf (slotErr_L11_ex j)
def slotErr_L11_S0 (k : Nat) (c : List D) (x0 : Int) (x1 : ByteArray) (x2 : Bool) (ds : List D) : Option Go.Ev.Rd := pullD (α := Int) (some (.tup ds)) (fun d => ((D.vi (D.at d 0)))) (fun s4 => .tup [.one (.int .i64 s4)]) fun s4 => ((if s4 < x0 then guardP ((0 : Int) ≤ s4 ∧ s4.toNat < k) (guardP (0 < k) (pullD (α := ByteArray) (readD c (s4.toNat * 14 + 0) 1 false) (fun d => ((D.vs d))) (fun v0 => .one (.string v0)) fun v0 => (guardP ((0 : Int) ≤ x0 ∧ x0.toNat < k) (pullD (α := ByteArray) (readD c (x0.toNat * 14 + 0) 1 false) (fun d => ((D.vs d))) (fun v1 => .one (.string v1)) fun v1 => ((if v0.toList = v1.toList then some (.out 1 [.one (.int .i64 (5 : Int))]) else some (.next 0 [.one (.int .i64 (IntKind.i64.wrap (s4 + (1 : Int))))]))))))) else some (.out 0 [])))
def slotErr_L11_S (k : Nat) (c : List D) (x0 : Int) (x1 : ByteArray) (x2 : Bool) : Go.Ev.Rd → Option Go.Ev.Rd
  | .next 0 ds => slotErr_L11_S0 k c x0 x1 x2 ds
  | _ => none
theorem slotErr_L11_S_0 (k : Nat) (c : List D) (x0 : Int) (x1 : ByteArray) (x2 : Bool) (ds : List D) : slotErr_L11_S k c x0 x1 x2 (.next 0 ds) = slotErr_L11_S0 k c x0 x1 x2 ds := rfl
theorem slotErr_L11_S_ok (k : Nat) (c : List D) (x0 : Int) (x1 : ByteArray) (x2 : Bool) : ∀ s_ t_, slotErr_L11_S k c x0 x1 x2 s_ = some t_ → Step (ctx [96] slotErr_sp) Tabs slotErr_L11_A (stateOf (slotErr_L11_gs k c x0 x1 x2 s_)) (stateOf (slotErr_L11_gs k c x0 x1 x2 t_)) (slotErr_L11_ax t_) ∧ EndOK slotErr_L11_A.nx slotErr_L11_A.low (slotErr_L11_gs k c x0 x1 x2) t_
  | .next 0 ds, t_, h => by
    have h_ : slotErr_L11_S0 k c x0 x1 x2 ds = some t_ := h
    clear h
    unfold slotErr_L11_S0 at h_
    obtain ⟨s4, e0, h0⟩ := pullD_elim h_
    clear h_
    obtain rfl := tup_inj e0
    by_cases b1_ : s4 < x0
    · have h2_ := (if_pos b1_).symm.trans h0
      obtain ⟨f3_, h4_⟩ := guardP_elim h2_
      obtain ⟨f5_, h6_⟩ := guardP_elim h4_
      obtain ⟨v0, f7_, h8_⟩ := pullD_elim h6_
      replace f7_ := readD_elim f7_
      obtain ⟨f9_, h10_⟩ := guardP_elim h8_
      obtain ⟨v1, f11_, h12_⟩ := pullD_elim h10_
      replace f11_ := readD_elim f11_
      by_cases b13_ : v0.toList = v1.toList
      · have h14_ := (if_pos b13_).symm.trans h12_
        obtain rfl := Option.some.inj h14_
        exact ⟨step_pc 3000 (bT 2 []) [.one (.string v0), .one (.string v1)] [c_d b1_, c_f f3_, c_f f5_, c_f f7_, c_f f9_, c_f f5_, c_f f11_, c_e b13_] [] _ rfl (by kernel_rfl) (by kernel_rfl) (by kernel_rfl) (by kernel_rfl) (by kernel_rfl) (by kernel_rfl), by kernel_rfl, by kernel_rfl⟩
      · have h14_ := (if_neg b13_).symm.trans h12_
        have b15_ : v0.toList ≠ v1.toList := by first | exact b13_ | simpa using b13_
        obtain rfl := Option.some.inj h14_
        exact ⟨step_pc 3000 (bT 1 (bF 1 [])) [.one (.string v0), .one (.string v1)] [c_d b1_, c_f f3_, c_f f5_, c_f f7_, c_f f9_, c_f f5_, c_f f11_, c_en b15_] [] _ rfl (by kernel_rfl) (by kernel_rfl) (by kernel_rfl) (by kernel_rfl) (by kernel_rfl) (by kernel_rfl), trivial⟩
    · have h2_ := (if_neg b1_).symm.trans h0
      obtain rfl := Option.some.inj h2_
      exact ⟨step_pc 3000 (bF 1 []) [] [c_n b1_] [] _ rfl (by kernel_rfl) (by kernel_rfl) (by kernel_rfl) (by kernel_rfl) (by kernel_rfl) (by kernel_rfl), by kernel_rfl, by kernel_rfl⟩
  | .next (_ + 1) _, _, h => by cases h
  | .out _ _, _, h => by cases h
theorem slotErr_L11_go (k : Nat) (c : List D) (x0 : Int) (x1 : ByteArray) (x2 : Bool) {q : Nat} {ds : List D} {j : Nat} {es : List D} (h : runR (slotErr_L11_S k c x0 x1 x2) (.next q ds) = some (.out j es)) : Runs (ctx [96] slotErr_sp) Tabs slotErr_L11_A (stateOf (slotErr_L11_gs k c x0 x1 x2 (.next q ds))) (stateOf (slotErr_L11_gs k c x0 x1 x2 (.out j es))) (slotErr_L11_ax (.out j es)) ∧ (nxtOf (slotErr_L11_gs k c x0 x1 x2 (.out j es)), lowGS (slotErr_L11_gs k c x0 x1 x2 (.out j es))) = (slotErr_L11_A.nx, slotErr_L11_A.low) :=
  runs_of' (good true _ _) slotErr_L11_ok (ax := slotErr_L11_ax) (fun _ _ => rfl) (fun _ _ => axOf_end _) (slotErr_L11_S_ok k c x0 x1 x2) h
theorem slotErr_L11_in0 (k : Nat) (c : List D) (x0 : Int) (x1 : ByteArray) (x2 : Bool) {es : List D} (h : runR (slotErr_L11_S k c x0 x1 x2) (.next 0 [.one (.int .i64 ((0 : Int)))]) = some (.out 0 es)) : LoopC (loopAt Tryd.prog 96 1) (slotErr_L11_E k c x0 x1 x2) 42 noFrame slotErr_x11_0 es :=
  have r := slotErr_L11_go k c x0 x1 x2 h
  loopin_as rfl (loop_in (l := slotErr_L11_A) (E := (slotErr_L11_E k c x0 x1 x2)) (S := stateOf (slotErr_L11_gs k c x0 x1 x2 (.next 0 [.one (.int .i64 ((0 : Int)))]))) (ns := nsOf (slotErr_L11_gs k c x0 x1 x2 (.next 0 [.one (.int .i64 ((0 : Int)))]))) slotErr_L11_ok r.1 r.2 (by kernel_rfl) (by kernel_rfl) (by kernel_rfl) (by kernel_rfl))
theorem slotErr_L11_in1 (k : Nat) (c : List D) (x0 : Int) (x1 : ByteArray) (x2 : Bool) {es : List D} (h : runR (slotErr_L11_S k c x0 x1 x2) (.next 0 [.one (.int .i64 ((0 : Int)))]) = some (.out 1 es)) : LoopC (loopAt Tryd.prog 96 1) (slotErr_L11_E k c x0 x1 x2) 42 noFrame slotErr_x11_1 es :=
  have r := slotErr_L11_go k c x0 x1 x2 h
  loopin_as rfl (loop_in (l := slotErr_L11_A) (E := (slotErr_L11_E k c x0 x1 x2)) (S := stateOf (slotErr_L11_gs k c x0 x1 x2 (.next 0 [.one (.int .i64 ((0 : Int)))]))) (ns := nsOf (slotErr_L11_gs k c x0 x1 x2 (.next 0 [.one (.int .i64 ((0 : Int)))]))) slotErr_L11_ok r.1 r.2 (by kernel_rfl) (by kernel_rfl) (by kernel_rfl) (by kernel_rfl))
def slotErr_L6_E (k : Nat) (c : List D)  : List AV × AHeap := ([.dsl 0, .pure (.tuple #[]), .pure (.int .i64 (0 : Int)), .pure (.int .i64 (0 : Int)), .pure (.tuple #[]), .pure (.tuple #[]), .dsl 0, .pure (.int .i64 (k : Int)), .pure (.bool ((k : Int) == (0 : Int))), .dsl 0, .pure (.int .i64 (k : Int)), .pure (.bool (decide ((k : Int) > (6 : Int)))), .pure (.tuple #[]), .pure (.tuple #[]), .pure (.tuple #[]), .pure (.tuple #[]), .pure (.tuple #[]), .pure (.tuple #[]), .pure (.tuple #[]), .pure (.tuple #[]), .pure (.tuple #[]), .pure (.tuple #[]), .pure (.tuple #[]), .pure (.tuple #[]), .pure (.tuple #[]), .pure (.tuple #[]), .pure (.tuple #[]), .pure (.tuple #[]), .pure (.tuple #[]), .pure (.tuple #[]), .pure (.tuple #[]), .pure (.tuple #[]), .pure (.tuple #[]), .pure (.tuple #[]), .pure (.tuple #[]), .pure (.tuple #[]), .pure (.tuple #[]), .pure (.tuple #[]), .pure (.tuple #[]), .pure (.tuple #[]), .pure (.tuple #[]), .pure (.tuple #[]), .pure (.tuple #[]), .pure (.tuple #[]), .pure (.tuple #[]), .pure (.tuple #[]), .pure (.tuple #[]), .pure (.tuple #[]), .pure (.tuple #[])], [(0, { cells := [], opn := none, kind := .deep k c })])
def slotErr_L6_A : LoopAt := ⟨96, loopAt Tryd.prog 96 0, 1, 42, 1, noFrame⟩
theorem slotErr_L6_ok : (slotErr_L6_A).OK := ⟨by show 1 ≤ 42; decide, by show 1 ≤ 1; decide, by kernel_rfl, rfl⟩
def slotErr_L6_gs (k : Nat) (c : List D)  : Go.Ev.Rd → Option GS
  | .next 0 ds => ghost [.val 3] (2 :: (4 :: (5 :: (List.range' 12 37)))) (slotErr_L6_E k c).1 (slotErr_L6_E k c).2 1 ds
  | .out 0 ds => ghost slotErr_x6_0.live slotErr_x6_0.junk (slotErr_L6_E k c).1 (slotErr_L6_E k c).2 1 ds
  | .out 1 ds => ghost slotErr_x6_1.live slotErr_x6_1.junk (slotErr_L6_E k c).1 (slotErr_L6_E k c).2 1 ds
  | _ => none
def slotErr_L6_ex : Nat → Option Nat
  | 0 => slotErr_x6_0.ex
  | 1 => slotErr_x6_1.ex
  | _ => none
def slotErr_L6_ax : Go.Ev.Rd → AX
  | .next _ _ => .normal
  | .out j _ => axOf (slotErr_L6_ex j)
def slotErr_L6_S0 (k : Nat) (c : List D)  (ds : List D) : Option Go.Ev.Rd := pullD (α := Int) (some (.tup ds)) (fun d => ((D.vi (D.at d 0)))) (fun s3 => .tup [.one (.int .i64 s3)]) fun s3 => ((if s3 < (k : Int) then guardP ((0 : Int) ≤ s3 ∧ s3.toNat < k) (guardP (0 < k) (pullD (α := ByteArray) (readD c (s3.toNat * 14 + 0) 1 false) (fun d => ((D.vs d))) (fun v0 => .one (.string v0)) fun v0 => (pullD (α := Bool) (m_153 [.one (.string v0)]) (fun d => ((D.vb d))) (fun r1 => .one (.bool r1)) fun r1 => ((if r1 = false then some (.out 1 [.one (.int .i64 (4 : Int))]) else bindL (runR (slotErr_L11_S k c s3 v0 r1) (.next 0 [.one (.int .i64 ((0 : Int)))])) fun j ds => (if j = 0 then pullD (some (.tup ds)) (fun _ => ()) (fun _ => .tup []) fun _ => (pullD (readD c (s3.toNat * 14) 14 true) shND2_0P (fun (v2, v3, v4, v5, v6, v7, v8, v9, v10, v11, v12, v13, v14, v15) => (shND2_0 v2 v3 v4 v5 v6 v7 v8 v9 v10 v11 v12 v13 v14 v15)) fun (v2, v3, v4, v5, v6, v7, v8, v9, v10, v11, v12, v13, v14, v15) => (pullD (α := Int) (m_154 [(shND2_0 v2 v3 v4 v5 v6 v7 v8 v9 v10 v11 v12 v13 v14 v15)]) (fun d => ((D.vi d))) (fun r16 => .one (.int .i64 r16)) fun r16 => ((if r16 ≠ (0 : Int) then some (.out 1 [.one (.int .i64 r16)]) else some (.next 0 [.one (.int .i64 (IntKind.i64.wrap (s3 + (1 : Int))))]))))) else if j = 1 then pullD (α := Int) (some (.tup ds)) (fun d => ((D.vi (D.at d 0)))) (fun l17 => .tup [.one (.int .i64 l17)]) fun l17 => (some (.out 1 [.one (.int .i64 l17)])) else none)))))) else some (.out 0 [])))
def slotErr_L6_S (k : Nat) (c : List D)  : Go.Ev.Rd → Option Go.Ev.Rd
  | .next 0 ds => slotErr_L6_S0 k c ds
  | _ => none
theorem slotErr_L6_S_0 (k : Nat) (c : List D)  (ds : List D) : slotErr_L6_S k c (.next 0 ds) = slotErr_L6_S0 k c ds := rfl
theorem slotErr_L6_S_ok (k : Nat) (c : List D)  : ∀ s_ t_, slotErr_L6_S k c s_ = some t_ → Step (ctx [96] slotErr_sp) Tabs slotErr_L6_A (stateOf (slotErr_L6_gs k c s_)) (stateOf (slotErr_L6_gs k c t_)) (slotErr_L6_ax t_) ∧ EndOK slotErr_L6_A.nx slotErr_L6_A.low (slotErr_L6_gs k c) t_
  | .next 0 ds, t_, h => by
    have h_ : slotErr_L6_S0 k c ds = some t_ := h
    clear h
    unfold slotErr_L6_S0 at h_
    obtain ⟨s3, e0, h0⟩ := pullD_elim h_
    clear h_
    obtain rfl := tup_inj e0
    by_cases b1_ : s3 < (k : Int)
    · have h2_ := (if_pos b1_).symm.trans h0
      obtain ⟨f3_, h4_⟩ := guardP_elim h2_
      obtain ⟨f5_, h6_⟩ := guardP_elim h4_
      obtain ⟨v0, f7_, h8_⟩ := pullD_elim h6_
      replace f7_ := readD_elim f7_
      obtain ⟨r1, f9_, h10_⟩ := pullD_elim h8_
      replace f9_ := m_153_ok f9_
      by_cases b11_ : r1 = false
      · have h12_ := (if_pos b11_).symm.trans h10_
        obtain rfl := Option.some.inj h12_
        exact ⟨step_pc 3000 (bT 2 []) [.one (.string v0), .one (.bool r1)] [c_d b1_, c_f f3_, c_f f5_, c_f f7_, c_no b11_] [k_c f9_] _ rfl (by kernel_rfl) (by kernel_rfl) (by kernel_rfl) (by kernel_rfl) (by kernel_rfl) (by kernel_rfl), by kernel_rfl, by kernel_rfl⟩
      · have h12_ := (if_neg b11_).symm.trans h10_
        have b13_ : r1 = true := by first | exact b11_ | simpa using b11_
        obtain ⟨j, ds, e14_, h15_⟩ := bindL_elim h12_
        by_cases j16_ : j = 0
        · have h19_ := (if_pos j16_).symm.trans h15_
          clear h15_
          subst j16_
          obtain ⟨⟨⟩, e17_, h20_⟩ := pullD_elim h19_
          clear h19_
          obtain rfl := tup_inj e17_
          have k18_ := slotErr_L11_in0 k c s3 v0 r1 e14_
          obtain ⟨⟨v2, v3, v4, v5, v6, v7, v8, v9, v10, v11, v12, v13, v14, v15⟩, f21_, h22_⟩ := pullD_elim h20_
          replace f21_ := readD_elim f21_
          obtain ⟨r16, f23_, h24_⟩ := pullD_elim h22_
          replace f23_ := m_154_ok f23_
          by_cases b25_ : r16 ≠ (0 : Int)
          · have h26_ := (if_pos b25_).symm.trans h24_
            obtain rfl := Option.some.inj h26_
            exact ⟨step_pc 3000 (bT 1 (bF 1 (bT 1 []))) [.one (.string v0), .one (.bool r1), .tup [.one (.int .i64 (Int.ofNat 0))], (shND2_0 v2 v3 v4 v5 v6 v7 v8 v9 v10 v11 v12 v13 v14 v15), .one (.int .i64 r16)] [c_d b1_, c_f f3_, c_f f5_, c_f f7_, c_nn b13_, c_f f3_, c_f f21_, c_b b25_] [k_c f9_, k_l k18_ (bT 1 []) [.tup [.one (.int .i64 (Int.ofNat 0))], (shND2_0 v2 v3 v4 v5 v6 v7 v8 v9 v10 v11 v12 v13 v14 v15), .one (.int .i64 r16)] [(shND2_0 v2 v3 v4 v5 v6 v7 v8 v9 v10 v11 v12 v13 v14 v15), .one (.int .i64 r16)], k_c f23_] _ rfl (by kernel_rfl) (by kernel_rfl) (by kernel_rfl) (by kernel_rfl) (by kernel_rfl) (by kernel_rfl), by kernel_rfl, by kernel_rfl⟩
          · have h26_ := (if_neg b25_).symm.trans h24_
            have b27_ : r16 = (0 : Int) := by first | exact b25_ | simpa using b25_
            obtain rfl := Option.some.inj h26_
            exact ⟨step_pc 3000 (bT 1 (bF 2 [])) [.one (.string v0), .one (.bool r1), .tup [.one (.int .i64 (Int.ofNat 0))], (shND2_0 v2 v3 v4 v5 v6 v7 v8 v9 v10 v11 v12 v13 v14 v15), .one (.int .i64 r16)] [c_d b1_, c_f f3_, c_f f5_, c_f f7_, c_nn b13_, c_f f3_, c_f f21_, c_bn b27_] [k_c f9_, k_l k18_ (bF 1 []) [.tup [.one (.int .i64 (Int.ofNat 0))], (shND2_0 v2 v3 v4 v5 v6 v7 v8 v9 v10 v11 v12 v13 v14 v15), .one (.int .i64 r16)] [(shND2_0 v2 v3 v4 v5 v6 v7 v8 v9 v10 v11 v12 v13 v14 v15), .one (.int .i64 r16)], k_c f23_] _ rfl (by kernel_rfl) (by kernel_rfl) (by kernel_rfl) (by kernel_rfl) (by kernel_rfl) (by kernel_rfl), trivial⟩
        have h28_ := (if_neg j16_).symm.trans h15_
        clear h15_
        by_cases j29_ : j = 1
        · have h32_ := (if_pos j29_).symm.trans h28_
          clear h28_
          subst j29_
          obtain ⟨l17, e30_, h33_⟩ := pullD_elim h32_
          clear h32_
          obtain rfl := tup_inj e30_
          have k31_ := slotErr_L11_in1 k c s3 v0 r1 e14_
          obtain rfl := Option.some.inj h33_
          exact ⟨step_pc 3000 (bT 1 (bF 1 [])) [.one (.string v0), .one (.bool r1), .tup [.one (.int .i64 (Int.ofNat 1)), .one (.int .i64 l17)]] [c_d b1_, c_f f3_, c_f f5_, c_f f7_, c_nn b13_] [k_c f9_, k_l k31_ [] [.tup [.one (.int .i64 (Int.ofNat 1)), .one (.int .i64 l17)]] []] _ rfl (by kernel_rfl) (by kernel_rfl) (by kernel_rfl) (by kernel_rfl) (by kernel_rfl) (by kernel_rfl), by kernel_rfl, by kernel_rfl⟩
        have h34_ := (if_neg j29_).symm.trans h28_
        clear h28_
        cases h34_
    · have h2_ := (if_neg b1_).symm.trans h0
      obtain rfl := Option.some.inj h2_
      exact ⟨step_pc 3000 (bF 1 []) [] [c_n b1_] [] _ rfl (by kernel_rfl) (by kernel_rfl) (by kernel_rfl) (by kernel_rfl) (by kernel_rfl) (by kernel_rfl), by kernel_rfl, by kernel_rfl⟩
  | .next (_ + 1) _, _, h => by cases h
  | .out _ _, _, h => by cases h
theorem slotErr_L6_go (k : Nat) (c : List D)  {q : Nat} {ds : List D} {j : Nat} {es : List D} (h : runR (slotErr_L6_S k c) (.next q ds) = some (.out j es)) : Runs (ctx [96] slotErr_sp) Tabs slotErr_L6_A (stateOf (slotErr_L6_gs k c (.next q ds))) (stateOf (slotErr_L6_gs k c (.out j es))) (slotErr_L6_ax (.out j es)) ∧ (nxtOf (slotErr_L6_gs k c (.out j es)), lowGS (slotErr_L6_gs k c (.out j es))) = (slotErr_L6_A.nx, slotErr_L6_A.low) :=
  runs_of' (good true _ _) slotErr_L6_ok (ax := slotErr_L6_ax) (fun _ _ => rfl) (fun _ _ => axOf_end _) (slotErr_L6_S_ok k c) h
theorem slotErr_L6_in0 (k : Nat) (c : List D)  {es : List D} (h : runR (slotErr_L6_S k c) (.next 0 [.one (.int .i64 ((0 : Int)))]) = some (.out 0 es)) : LoopC (loopAt Tryd.prog 96 0) (slotErr_L6_E k c) 1 noFrame slotErr_x6_0 es :=
  have r := slotErr_L6_go k c h
  loopin_as rfl (loop_in (l := slotErr_L6_A) (E := (slotErr_L6_E k c)) (S := stateOf (slotErr_L6_gs k c (.next 0 [.one (.int .i64 ((0 : Int)))]))) (ns := nsOf (slotErr_L6_gs k c (.next 0 [.one (.int .i64 ((0 : Int)))]))) slotErr_L6_ok r.1 r.2 (by kernel_rfl) (by kernel_rfl) (by kernel_rfl) (by kernel_rfl))
theorem slotErr_L6_in1 (k : Nat) (c : List D)  {es : List D} (h : runR (slotErr_L6_S k c) (.next 0 [.one (.int .i64 ((0 : Int)))]) = some (.out 1 es)) : LoopC (loopAt Tryd.prog 96 0) (slotErr_L6_E k c) 1 noFrame slotErr_x6_1 es :=
  have r := slotErr_L6_go k c h
  loopin_as rfl (loop_in (l := slotErr_L6_A) (E := (slotErr_L6_E k c)) (S := stateOf (slotErr_L6_gs k c (.next 0 [.one (.int .i64 ((0 : Int)))]))) (ns := nsOf (slotErr_L6_gs k c (.next 0 [.one (.int .i64 ((0 : Int)))]))) slotErr_L6_ok r.1 r.2 (by kernel_rfl) (by kernel_rfl) (by kernel_rfl) (by kernel_rfl))
def slotErr_M (k : Nat) (c : List D) : Option D := (if (k : Int) = (0 : Int) then some (.one (.int .i64 (10 : Int))) else (if (k : Int) > (6 : Int) then some (.one (.int .i64 (8 : Int))) else bindL (runR (slotErr_L6_S k c) (.next 0 [.one (.int .i64 ((0 : Int)))])) fun j ds => (if j = 0 then pullD (some (.tup ds)) (fun _ => ()) (fun _ => .tup []) fun _ => (some (.one (.int .i64 (0 : Int)))) else if j = 1 then pullD (α := Int) (some (.tup ds)) (fun d => ((D.vi (D.at d 0)))) (fun l0 => .tup [.one (.int .i64 l0)]) fun l0 => (some (.one (.int .i64 l0))) else none)))
theorem slotErr_M_ok (k : Nat) (c : List D) {r : D} (h : slotErr_M k c = some r) : Con 96 [.list k c] r := by
  unfold slotErr_M at h
  by_cases b1_ : (k : Int) = (0 : Int)
  · have h2_ := (if_pos b1_).symm.trans h
    obtain rfl := Option.some.inj h2_
    exact con_pc (op := true) (I := [96]) (sp := slotErr_sp) 3000 (bT 1 []) [] [c_e b1_] [] (by kernel_rfl)
  · have h2_ := (if_neg b1_).symm.trans h
    have b3_ : (k : Int) ≠ (0 : Int) := by first | exact b1_ | simpa using b1_
    by_cases b4_ : (k : Int) > (6 : Int)
    · have h5_ := (if_pos b4_).symm.trans h2_
      obtain rfl := Option.some.inj h5_
      exact con_pc (op := true) (I := [96]) (sp := slotErr_sp) 3000 (bF 1 (bT 1 [])) [] [c_en b3_, c_d b4_] [] (by kernel_rfl)
    · have h5_ := (if_neg b4_).symm.trans h2_
      obtain ⟨j, ds, e6_, h7_⟩ := bindL_elim h5_
      by_cases j8_ : j = 0
      · have h11_ := (if_pos j8_).symm.trans h7_
        clear h7_
        subst j8_
        obtain ⟨⟨⟩, e9_, h12_⟩ := pullD_elim h11_
        clear h11_
        obtain rfl := tup_inj e9_
        have k10_ := slotErr_L6_in0 k c e6_
        obtain rfl := Option.some.inj h12_
        exact con_pc (op := true) (I := [96]) (sp := slotErr_sp) 3000 (bF 2 []) [.tup [.one (.int .i64 (Int.ofNat 0))]] [c_en b3_, c_n b4_] [k_l k10_ [] [.tup [.one (.int .i64 (Int.ofNat 0))]] []] (by kernel_rfl)
      have h13_ := (if_neg j8_).symm.trans h7_
      clear h7_
      by_cases j14_ : j = 1
      · have h17_ := (if_pos j14_).symm.trans h13_
        clear h13_
        subst j14_
        obtain ⟨l0, e15_, h18_⟩ := pullD_elim h17_
        clear h17_
        obtain rfl := tup_inj e15_
        have k16_ := slotErr_L6_in1 k c e6_
        obtain rfl := Option.some.inj h18_
        exact con_pc (op := true) (I := [96]) (sp := slotErr_sp) 3000 (bF 2 []) [.tup [.one (.int .i64 (Int.ofNat 1)), .one (.int .i64 l0)]] [c_en b3_, c_n b4_] [k_l k16_ [] [.tup [.one (.int .i64 (Int.ofNat 1)), .one (.int .i64 l0)]] []] (by kernel_rfl)
      have h19_ := (if_neg j14_).symm.trans h13_
      clear h13_
      cases h19_
def m_96 (ds : List D) : Option D := pullD (α := Nat × (List D)) (some (.tup ds)) (fun d => ((D.ln (D.at d 0)), (D.lc (D.at d 0)))) (fun (k, c) => .tup [.list k c]) fun (k, c) => slotErr_M k c
theorem m_96_ok {ds : List D} {r : D} (h : m_96 ds = some r) : Con 96 ds r := by
  unfold m_96 at h
  obtain ⟨⟨k, c⟩, e0, h0⟩ := pullD_elim h
  obtain rfl := tup_inj e0
  exact slotErr_M_ok k c h0
theorem m_96_eq (k : Nat) (c : List D) : m_96 [.list k c] = slotErr_M k c := pullD_some (k, c) rfl rfl
def chkStockR_x8_0 : LExit := ⟨some 0, [], (List.range' 2 4 ++ (List.range' 24 17))⟩
def chkStockR_x8_1 : LExit := ⟨none, [.val 2, .val 3], (4 :: (5 :: (List.range' 24 17)))⟩
def chkStockR_sp : List LSpec := [⟨35, 8, [chkStockR_x8_0, chkStockR_x8_1]⟩]
def chkStockR_L8_E (k : Nat) (c : List D) (ip pr : Int) (x0 : Bool) (x1 : Bool) : List AV × AHeap := ([.agg [.dsl 0, .pure (.int .i64 ip), .pure (.int .i64 pr)], .ptr 1 0, .pure (.int .i64 (0 : Int)), .pure (.int .i64 (0 : Int)), .pure (.int .i64 (0 : Int)), .pure (.tuple #[]), .ptr 1 1, .pure (.int .i64 ip), .pure (.bool x0), .pure (.bool !x0), .pure (.bool !x0), .ptr 1 2, .pure (.int .i64 pr), .pure (.bool x1), .pure (.bool !x1), .pure (.bool !x1), .ptr 1 0, .dsl 0, .pure (.int .i64 (k : Int)), .pure (.bool ((k : Int) == (0 : Int))), .ptr 1 0, .dsl 0, .pure (.int .i64 (k : Int)), .pure (.bool (decide ((k : Int) > (5 : Int)))), .pure (.tuple #[]), .pure (.tuple #[]), .pure (.tuple #[]), .pure (.tuple #[]), .pure (.tuple #[]), .pure (.tuple #[]), .pure (.tuple #[]), .pure (.tuple #[]), .pure (.tuple #[]), .pure (.tuple #[]), .pure (.tuple #[]), .pure (.tuple #[]), .pure (.tuple #[]), .pure (.tuple #[]), .pure (.tuple #[]), .pure (.tuple #[]), .pure (.tuple #[])], [(1, { cells := [.dsl 0, .pure (.int .i64 ip), .pure (.int .i64 pr)], opn := none, kind := .cells }), (0, { cells := [], opn := none, kind := .deep k c })])
def chkStockR_L8_A : LoopAt := ⟨35, loopAt Tryd.prog 35 0, 2, 23, 2, noFrame⟩
theorem chkStockR_L8_ok : (chkStockR_L8_A).OK := ⟨by show 2 ≤ 23; decide, by show 2 ≤ 2; decide, by kernel_rfl, rfl⟩
def chkStockR_L8_gs (k : Nat) (c : List D) (ip pr : Int) (x0 : Bool) (x1 : Bool) : Go.Ev.Rd → Option GS
  | .next 0 ds => ghost [.val 4] (2 :: (3 :: (5 :: (List.range' 24 17)))) (chkStockR_L8_E k c ip pr x0 x1).1 (chkStockR_L8_E k c ip pr x0 x1).2 2 ds
  | .out 0 ds => ghost chkStockR_x8_0.live chkStockR_x8_0.junk (chkStockR_L8_E k c ip pr x0 x1).1 (chkStockR_L8_E k c ip pr x0 x1).2 2 ds
  | .out 1 ds => ghost chkStockR_x8_1.live chkStockR_x8_1.junk (chkStockR_L8_E k c ip pr x0 x1).1 (chkStockR_L8_E k c ip pr x0 x1).2 2 ds
  | _ => none
def chkStockR_L8_ex : Nat → Option Nat
  | 0 => chkStockR_x8_0.ex
  | 1 => chkStockR_x8_1.ex
  | _ => none
def chkStockR_L8_ax : Go.Ev.Rd → AX
  | .next _ _ => .normal
  | .out j _ => axOf (chkStockR_L8_ex j)
def chkStockR_L8_S0 (k : Nat) (c : List D) (ip pr : Int) (x0 : Bool) (x1 : Bool) (ds : List D) : Option Go.Ev.Rd := pullD (α := Int) (some (.tup ds)) (fun d => ((D.vi (D.at d 0)))) (fun s4 => .tup [.one (.int .i64 s4)]) fun s4 => ((if s4 < (k : Int) then guardP ((0 : Int) ≤ s4 ∧ s4.toNat < k) (pullD (α := Nat × (List D)) (readD c (s4.toNat * 1) 1 false) (fun d => ((D.ln d), (D.lc d))) (fun (k0, c1) => .list k0 c1) fun (k0, c1) => (pullD (α := Int) (m_96 [.list k0 c1]) (fun d => ((D.vi d))) (fun r2 => .one (.int .i64 r2)) fun r2 => ((if r2 ≠ (0 : Int) then some (.out 1 [.one (.int .i64 s4), .one (.int .i64 r2)]) else some (.next 0 [.one (.int .i64 (IntKind.i64.wrap (s4 + (1 : Int))))]))))) else some (.out 0 [])))
def chkStockR_L8_S (k : Nat) (c : List D) (ip pr : Int) (x0 : Bool) (x1 : Bool) : Go.Ev.Rd → Option Go.Ev.Rd
  | .next 0 ds => chkStockR_L8_S0 k c ip pr x0 x1 ds
  | _ => none
theorem chkStockR_L8_S_0 (k : Nat) (c : List D) (ip pr : Int) (x0 : Bool) (x1 : Bool) (ds : List D) : chkStockR_L8_S k c ip pr x0 x1 (.next 0 ds) = chkStockR_L8_S0 k c ip pr x0 x1 ds := rfl
theorem chkStockR_L8_S_ok (k : Nat) (c : List D) (ip pr : Int) (x0 : Bool) (x1 : Bool) : ∀ s_ t_, chkStockR_L8_S k c ip pr x0 x1 s_ = some t_ → Step (ctx [35] chkStockR_sp) Tabs chkStockR_L8_A (stateOf (chkStockR_L8_gs k c ip pr x0 x1 s_)) (stateOf (chkStockR_L8_gs k c ip pr x0 x1 t_)) (chkStockR_L8_ax t_) ∧ EndOK chkStockR_L8_A.nx chkStockR_L8_A.low (chkStockR_L8_gs k c ip pr x0 x1) t_
  | .next 0 ds, t_, h => by
    have h_ : chkStockR_L8_S0 k c ip pr x0 x1 ds = some t_ := h
    clear h
    unfold chkStockR_L8_S0 at h_
    obtain ⟨s4, e0, h0⟩ := pullD_elim h_
    clear h_
    obtain rfl := tup_inj e0
    by_cases b1_ : s4 < (k : Int)
    · have h2_ := (if_pos b1_).symm.trans h0
      obtain ⟨f3_, h4_⟩ := guardP_elim h2_
      obtain ⟨⟨k0, c1⟩, f5_, h6_⟩ := pullD_elim h4_
      replace f5_ := readD_elim f5_
      obtain ⟨r2, f7_, h8_⟩ := pullD_elim h6_
      replace f7_ := m_96_ok f7_
      by_cases b9_ : r2 ≠ (0 : Int)
      · have h10_ := (if_pos b9_).symm.trans h8_
        obtain rfl := Option.some.inj h10_
        exact ⟨step_pc 3000 (bT 2 []) [.list k0 c1, .one (.int .i64 r2)] [c_d b1_, c_f f3_, c_f f5_, c_b b9_] [k_c f7_] _ rfl (by kernel_rfl) (by kernel_rfl) (by kernel_rfl) (by kernel_rfl) (by kernel_rfl) (by kernel_rfl), by kernel_rfl, by kernel_rfl⟩
      · have h10_ := (if_neg b9_).symm.trans h8_
        have b11_ : r2 = (0 : Int) := by first | exact b9_ | simpa using b9_
        obtain rfl := Option.some.inj h10_
        exact ⟨step_pc 3000 (bT 1 (bF 1 [])) [.list k0 c1, .one (.int .i64 r2)] [c_d b1_, c_f f3_, c_f f5_, c_bn b11_] [k_c f7_] _ rfl (by kernel_rfl) (by kernel_rfl) (by kernel_rfl) (by kernel_rfl) (by kernel_rfl) (by kernel_rfl), trivial⟩
    · have h2_ := (if_neg b1_).symm.trans h0
      obtain rfl := Option.some.inj h2_
      exact ⟨step_pc 3000 (bF 1 []) [] [c_n b1_] [] _ rfl (by kernel_rfl) (by kernel_rfl) (by kernel_rfl) (by kernel_rfl) (by kernel_rfl) (by kernel_rfl), by kernel_rfl, by kernel_rfl⟩
  | .next (_ + 1) _, _, h => by cases h
  | .out _ _, _, h => by cases h
theorem chkStockR_L8_go (k : Nat) (c : List D) (ip pr : Int) (x0 : Bool) (x1 : Bool) {q : Nat} {ds : List D} {j : Nat} {es : List D} (h : runR (chkStockR_L8_S k c ip pr x0 x1) (.next q ds) = some (.out j es)) : Runs (ctx [35] chkStockR_sp) Tabs chkStockR_L8_A (stateOf (chkStockR_L8_gs k c ip pr x0 x1 (.next q ds))) (stateOf (chkStockR_L8_gs k c ip pr x0 x1 (.out j es))) (chkStockR_L8_ax (.out j es)) ∧ (nxtOf (chkStockR_L8_gs k c ip pr x0 x1 (.out j es)), lowGS (chkStockR_L8_gs k c ip pr x0 x1 (.out j es))) = (chkStockR_L8_A.nx, chkStockR_L8_A.low) :=
  runs_of' (good true _ _) chkStockR_L8_ok (ax := chkStockR_L8_ax) (fun _ _ => rfl) (fun _ _ => axOf_end _) (chkStockR_L8_S_ok k c ip pr x0 x1) h
theorem chkStockR_L8_in0 (k : Nat) (c : List D) (ip pr : Int) (x0 : Bool) (x1 : Bool) {es : List D} (h : runR (chkStockR_L8_S k c ip pr x0 x1) (.next 0 [.one (.int .i64 ((0 : Int)))]) = some (.out 0 es)) : LoopC (loopAt Tryd.prog 35 0) (chkStockR_L8_E k c ip pr x0 x1) 2 noFrame chkStockR_x8_0 es :=
  have r := chkStockR_L8_go k c ip pr x0 x1 h
  loopin_as rfl (loop_in (l := chkStockR_L8_A) (E := (chkStockR_L8_E k c ip pr x0 x1)) (S := stateOf (chkStockR_L8_gs k c ip pr x0 x1 (.next 0 [.one (.int .i64 ((0 : Int)))]))) (ns := nsOf (chkStockR_L8_gs k c ip pr x0 x1 (.next 0 [.one (.int .i64 ((0 : Int)))]))) chkStockR_L8_ok r.1 r.2 (by kernel_rfl) (by kernel_rfl) (by kernel_rfl) (by kernel_rfl))
theorem chkStockR_L8_in1 (k : Nat) (c : List D) (ip pr : Int) (x0 : Bool) (x1 : Bool) {es : List D} (h : runR (chkStockR_L8_S k c ip pr x0 x1) (.next 0 [.one (.int .i64 ((0 : Int)))]) = some (.out 1 es)) : LoopC (loopAt Tryd.prog 35 0) (chkStockR_L8_E k c ip pr x0 x1) 2 noFrame chkStockR_x8_1 es :=
  have r := chkStockR_L8_go k c ip pr x0 x1 h
  loopin_as rfl (loop_in (l := chkStockR_L8_A) (E := (chkStockR_L8_E k c ip pr x0 x1)) (S := stateOf (chkStockR_L8_gs k c ip pr x0 x1 (.next 0 [.one (.int .i64 ((0 : Int)))]))) (ns := nsOf (chkStockR_L8_gs k c ip pr x0 x1 (.next 0 [.one (.int .i64 ((0 : Int)))]))) chkStockR_L8_ok r.1 r.2 (by kernel_rfl) (by kernel_rfl) (by kernel_rfl) (by kernel_rfl))
def chkStockR_M (k : Nat) (c : List D) (ip pr : Int) : Option D := pullD (α := Bool) (m_22 [.one (.int .i64 ip), .one (.int .i64 (0 : Int)), .one (.int .i64 (1000 : Int))]) (fun d => ((D.vb d))) (fun r0 => .one (.bool r0)) fun r0 => ((if r0 = false then some (.tup [.one (.int .i64 (0 : Int)), .one (.int .i64 (2 : Int))]) else pullD (α := Bool) (m_22 [.one (.int .i64 pr), .one (.int .i64 (0 : Int)), .one (.int .i64 (1000 : Int))]) (fun d => ((D.vb d))) (fun r1 => .one (.bool r1)) fun r1 => ((if r1 = false then some (.tup [.one (.int .i64 (0 : Int)), .one (.int .i64 (2 : Int))]) else (if (k : Int) = (0 : Int) then some (.tup [.one (.int .i64 (0 : Int)), .one (.int .i64 (10 : Int))]) else (if (k : Int) > (5 : Int) then some (.tup [.one (.int .i64 (0 : Int)), .one (.int .i64 (8 : Int))]) else bindL (runR (chkStockR_L8_S k c ip pr r0 r1) (.next 0 [.one (.int .i64 ((0 : Int)))])) fun j ds => (if j = 0 then pullD (some (.tup ds)) (fun _ => ()) (fun _ => .tup []) fun _ => (some (.tup [.one (.int .i64 (0 : Int)), .one (.int .i64 (0 : Int))])) else if j = 1 then pullD (α := Int × Int) (some (.tup ds)) (fun d => ((D.vi (D.at d 0)), (D.vi (D.at d 1)))) (fun (l2, l3) => .tup [.one (.int .i64 l2), .one (.int .i64 l3)]) fun (l2, l3) => (some (.tup [.one (.int .i64 l2), .one (.int .i64 l3)])) else none)))))))
theorem chkStockR_M_ok (k : Nat) (c : List D) (ip pr : Int) {r : D} (h : chkStockR_M k c ip pr = some r) : Con 35 [.agg [.list k c, .one (.int .i64 ip), .one (.int .i64 pr)]] r := by
  unfold chkStockR_M at h
  obtain ⟨r0, f1_, h2_⟩ := pullD_elim h
  replace f1_ := m_22_ok f1_
  by_cases b3_ : r0 = false
  · have h4_ := (if_pos b3_).symm.trans h2_
    obtain rfl := Option.some.inj h4_
    exact con_pc (op := true) (I := [35]) (sp := chkStockR_sp) 3000 (bT 6 []) [.one (.bool r0)] [c_no b3_, c_no b3_, c_no b3_, c_no b3_, c_no b3_, c_T] [k_c f1_] (by kernel_rfl)
  · have h4_ := (if_neg b3_).symm.trans h2_
    have b5_ : r0 = true := by first | exact b3_ | simpa using b3_
    obtain ⟨r1, f6_, h7_⟩ := pullD_elim h4_
    replace f6_ := m_22_ok f6_
    by_cases b8_ : r1 = false
    · have h9_ := (if_pos b8_).symm.trans h7_
      obtain rfl := Option.some.inj h9_
      exact con_pc (op := true) (I := [35]) (sp := chkStockR_sp) 3000 (bF 5 (bT 1 [])) [.one (.bool r0), .one (.bool r1)] [c_nn b5_, c_nn b5_, c_nn b5_, c_nn b5_, c_nn b5_, c_no b8_] [k_c f1_, k_c f6_] (by kernel_rfl)
    · have h9_ := (if_neg b8_).symm.trans h7_
      have b10_ : r1 = true := by first | exact b8_ | simpa using b8_
      by_cases b11_ : (k : Int) = (0 : Int)
      · have h12_ := (if_pos b11_).symm.trans h9_
        obtain rfl := Option.some.inj h12_
        exact con_pc (op := true) (I := [35]) (sp := chkStockR_sp) 3000 (bF 6 (bT 1 [])) [.one (.bool r0), .one (.bool r1)] [c_nn b5_, c_nn b5_, c_nn b5_, c_nn b5_, c_nn b5_, c_nn b10_, c_e b11_] [k_c f1_, k_c f6_] (by kernel_rfl)
      · have h12_ := (if_neg b11_).symm.trans h9_
        have b13_ : (k : Int) ≠ (0 : Int) := by first | exact b11_ | simpa using b11_
        by_cases b14_ : (k : Int) > (5 : Int)
        · have h15_ := (if_pos b14_).symm.trans h12_
          obtain rfl := Option.some.inj h15_
          exact con_pc (op := true) (I := [35]) (sp := chkStockR_sp) 3000 (bF 7 (bT 1 [])) [.one (.bool r0), .one (.bool r1)] [c_nn b5_, c_nn b5_, c_nn b5_, c_nn b5_, c_nn b5_, c_nn b10_, c_en b13_, c_d b14_] [k_c f1_, k_c f6_] (by kernel_rfl)
        · have h15_ := (if_neg b14_).symm.trans h12_
          obtain ⟨j, ds, e16_, h17_⟩ := bindL_elim h15_
          by_cases j18_ : j = 0
          · have h21_ := (if_pos j18_).symm.trans h17_
            clear h17_
            subst j18_
            obtain ⟨⟨⟩, e19_, h22_⟩ := pullD_elim h21_
            clear h21_
            obtain rfl := tup_inj e19_
            have k20_ := chkStockR_L8_in0 k c ip pr r0 r1 e16_
            obtain rfl := Option.some.inj h22_
            exact con_pc (op := true) (I := [35]) (sp := chkStockR_sp) 3000 (bF 8 []) [.one (.bool r0), .one (.bool r1), .tup [.one (.int .i64 (Int.ofNat 0))]] [c_nn b5_, c_nn b5_, c_nn b5_, c_nn b5_, c_nn b5_, c_nn b10_, c_en b13_, c_n b14_] [k_c f1_, k_c f6_, k_l k20_ [] [.tup [.one (.int .i64 (Int.ofNat 0))]] []] (by kernel_rfl)
          have h23_ := (if_neg j18_).symm.trans h17_
          clear h17_
          by_cases j24_ : j = 1
          · have h27_ := (if_pos j24_).symm.trans h23_
            clear h23_
            subst j24_
            obtain ⟨⟨l2, l3⟩, e25_, h28_⟩ := pullD_elim h27_
            clear h27_
            obtain rfl := tup_inj e25_
            have k26_ := chkStockR_L8_in1 k c ip pr r0 r1 e16_
            obtain rfl := Option.some.inj h28_
            exact con_pc (op := true) (I := [35]) (sp := chkStockR_sp) 3000 (bF 8 []) [.one (.bool r0), .one (.bool r1), .tup [.one (.int .i64 (Int.ofNat 1)), .one (.int .i64 l2), .one (.int .i64 l3)]] [c_nn b5_, c_nn b5_, c_nn b5_, c_nn b5_, c_nn b5_, c_nn b10_, c_en b13_, c_n b14_] [k_c f1_, k_c f6_, k_l k26_ [] [.tup [.one (.int .i64 (Int.ofNat 1)), .one (.int .i64 l2), .one (.int .i64 l3)]] []] (by kernel_rfl)
          have h29_ := (if_neg j24_).symm.trans h23_
          clear h23_
          cases h29_
def m_35 (ds : List D) : Option D := pullD (α := Nat × (List D) × Int × Int) (some (.tup ds)) (fun d => ((D.ln (D.at (D.at d 0) 0)), (D.lc (D.at (D.at d 0) 0)), (D.vi (D.at (D.at d 0) 1)), (D.vi (D.at (D.at d 0) 2)))) (fun (k, c, ip, pr) => .tup [.agg [.list k c, .one (.int .i64 ip), .one (.int .i64 pr)]]) fun (k, c, ip, pr) => chkStockR_M k c ip pr
theorem m_35_ok {ds : List D} {r : D} (h : m_35 ds = some r) : Con 35 ds r := by
  unfold m_35 at h
  obtain ⟨⟨k, c, ip, pr⟩, e0, h0⟩ := pullD_elim h
  obtain rfl := tup_inj e0
  exact chkStockR_M_ok k c ip pr h0
theorem m_35_eq (k : Nat) (c : List D) (ip pr : Int) : m_35 [.agg [.list k c, .one (.int .i64 ip), .one (.int .i64 pr)]] = chkStockR_M k c ip pr := pullD_some (k, c, ip, pr) rfl rfl
def domR_sp : List LSpec := []
def domR_M (pn : ByteArray) (pp p0 p1 p2 p3 p4 p5 p6 p7 p8 p9 p10 p11 : Int) (qn : ByteArray) (qp q0 q1 q2 q3 q4 q5 q6 q7 q8 q9 q10 q11 : Int) : Option D := (if pp > qp then some (.one (.bool false)) else (if (!(p8 == q8 && (p9 == q9 && true))) = true then some (.one (.bool false)) else (if (!(p10 == q10 && (p11 == q11 && true))) = true then some (.one (.bool false)) else (if p0 > q0 then some (.one (.bool false)) else (if p1 > q1 then some (.one (.bool false)) else (if p2 > q2 then some (.one (.bool false)) else (if p3 > q3 then some (.one (.bool false)) else (if p4 > q4 then some (.one (.bool false)) else (if p5 > q5 then some (.one (.bool false)) else (if p6 > q6 then some (.one (.bool false)) else (if p7 > q7 then some (.one (.bool false)) else some (.one (.bool true)))))))))))))
theorem domR_M_ok (pn : ByteArray) (pp p0 p1 p2 p3 p4 p5 p6 p7 p8 p9 p10 p11 : Int) (qn : ByteArray) (qp q0 q1 q2 q3 q4 q5 q6 q7 q8 q9 q10 q11 : Int) {r : D} (h : domR_M pn pp p0 p1 p2 p3 p4 p5 p6 p7 p8 p9 p10 p11 qn qp q0 q1 q2 q3 q4 q5 q6 q7 q8 q9 q10 q11 = some r) : Con 97 [(shND2_0 pn pp p0 p1 p2 p3 p4 p5 p6 p7 p8 p9 p10 p11), (shND2_0 qn qp q0 q1 q2 q3 q4 q5 q6 q7 q8 q9 q10 q11)] r := by
  unfold domR_M at h
  by_cases b1_ : pp > qp
  · have h2_ := (if_pos b1_).symm.trans h
    obtain rfl := Option.some.inj h2_
    exact con_pc (op := true) (I := [97]) (sp := domR_sp) 3000 (bT 17 []) [] [c_d b1_, c_d b1_, c_d b1_, c_d b1_, c_d b1_, c_d b1_, c_d b1_, c_d b1_, c_T, c_T, c_T, c_T, c_T, c_T, c_T, c_T, c_T] [] (by kernel_rfl)
  · have h2_ := (if_neg b1_).symm.trans h
    by_cases b3_ : (!(p8 == q8 && (p9 == q9 && true))) = true
    · have h4_ := (if_pos b3_).symm.trans h2_
      obtain rfl := Option.some.inj h4_
      exact con_pc (op := true) (I := [97]) (sp := domR_sp) 3000 (bF 8 (bT 9 [])) [] [c_n b1_, c_n b1_, c_n b1_, c_n b1_, c_n b1_, c_n b1_, c_n b1_, c_n b1_, c_q b3_, c_q b3_, c_q b3_, c_q b3_, c_q b3_, c_q b3_, c_q b3_, c_q b3_, c_T] [] (by kernel_rfl)
    · have h4_ := (if_neg b3_).symm.trans h2_
      have b5_ : (!(p8 == q8 && (p9 == q9 && true))) = false := by first | exact b3_ | simpa using b3_
      by_cases b6_ : (!(p10 == q10 && (p11 == q11 && true))) = true
      · have h7_ := (if_pos b6_).symm.trans h4_
        obtain rfl := Option.some.inj h7_
        exact con_pc (op := true) (I := [97]) (sp := domR_sp) 3000 (bF 16 (bT 1 [])) [] [c_n b1_, c_n b1_, c_n b1_, c_n b1_, c_n b1_, c_n b1_, c_n b1_, c_n b1_, c_q b5_, c_q b5_, c_q b5_, c_q b5_, c_q b5_, c_q b5_, c_q b5_, c_q b5_, c_q b6_] [] (by kernel_rfl)
      · have h7_ := (if_neg b6_).symm.trans h4_
        have b8_ : (!(p10 == q10 && (p11 == q11 && true))) = false := by first | exact b6_ | simpa using b6_
        by_cases b9_ : p0 > q0
        · have h10_ := (if_pos b9_).symm.trans h7_
          obtain rfl := Option.some.inj h10_
          exact con_pc (op := true) (I := [97]) (sp := domR_sp) 3000 (bF 17 (bT 14 [])) [] [c_n b1_, c_n b1_, c_n b1_, c_n b1_, c_n b1_, c_n b1_, c_n b1_, c_n b1_, c_q b5_, c_q b5_, c_q b5_, c_q b5_, c_q b5_, c_q b5_, c_q b5_, c_q b5_, c_q b8_, c_T, c_d b9_, c_d b9_, c_d b9_, c_d b9_, c_d b9_, c_d b9_, c_d b9_, c_d b9_, c_d b9_, c_d b9_, c_d b9_, c_d b9_, c_T] [] (by kernel_rfl)
        · have h10_ := (if_neg b9_).symm.trans h7_
          by_cases b11_ : p1 > q1
          · have h12_ := (if_pos b11_).symm.trans h10_
            obtain rfl := Option.some.inj h12_
            exact con_pc (op := true) (I := [97]) (sp := domR_sp) 3000 (bF 17 (bT 1 (bF 12 (bT 1 [])))) [] [c_n b1_, c_n b1_, c_n b1_, c_n b1_, c_n b1_, c_n b1_, c_n b1_, c_n b1_, c_q b5_, c_q b5_, c_q b5_, c_q b5_, c_q b5_, c_q b5_, c_q b5_, c_q b5_, c_q b8_, c_T, c_n b9_, c_n b9_, c_n b9_, c_n b9_, c_n b9_, c_n b9_, c_n b9_, c_n b9_, c_n b9_, c_n b9_, c_n b9_, c_n b9_, c_d b11_] [] (by kernel_rfl)
          · have h12_ := (if_neg b11_).symm.trans h10_
            by_cases b13_ : p2 > q2
            · have h14_ := (if_pos b13_).symm.trans h12_
              obtain rfl := Option.some.inj h14_
              exact con_pc (op := true) (I := [97]) (sp := domR_sp) 3000 (bF 17 (bT 1 (bF 13 (bT 14 [])))) [] [c_n b1_, c_n b1_, c_n b1_, c_n b1_, c_n b1_, c_n b1_, c_n b1_, c_n b1_, c_q b5_, c_q b5_, c_q b5_, c_q b5_, c_q b5_, c_q b5_, c_q b5_, c_q b5_, c_q b8_, c_T, c_n b9_, c_n b9_, c_n b9_, c_n b9_, c_n b9_, c_n b9_, c_n b9_, c_n b9_, c_n b9_, c_n b9_, c_n b9_, c_n b9_, c_n b11_, c_T, c_d b13_, c_d b13_, c_d b13_, c_d b13_, c_d b13_, c_d b13_, c_d b13_, c_d b13_, c_d b13_, c_d b13_, c_d b13_, c_d b13_, c_T] [] (by kernel_rfl)
            · have h14_ := (if_neg b13_).symm.trans h12_
              by_cases b15_ : p3 > q3
              · have h16_ := (if_pos b15_).symm.trans h14_
                obtain rfl := Option.some.inj h16_
                exact con_pc (op := true) (I := [97]) (sp := domR_sp) 3000 (bF 17 (bT 1 (bF 13 (bT 1 (bF 12 (bT 1 [])))))) [] [c_n b1_, c_n b1_, c_n b1_, c_n b1_, c_n b1_, c_n b1_, c_n b1_, c_n b1_, c_q b5_, c_q b5_, c_q b5_, c_q b5_, c_q b5_, c_q b5_, c_q b5_, c_q b5_, c_q b8_, c_T, c_n b9_, c_n b9_, c_n b9_, c_n b9_, c_n b9_, c_n b9_, c_n b9_, c_n b9_, c_n b9_, c_n b9_, c_n b9_, c_n b9_, c_n b11_, c_T, c_n b13_, c_n b13_, c_n b13_, c_n b13_, c_n b13_, c_n b13_, c_n b13_, c_n b13_, c_n b13_, c_n b13_, c_n b13_, c_n b13_, c_d b15_] [] (by kernel_rfl)
              · have h16_ := (if_neg b15_).symm.trans h14_
                by_cases b17_ : p4 > q4
                · have h18_ := (if_pos b17_).symm.trans h16_
                  obtain rfl := Option.some.inj h18_
                  exact con_pc (op := true) (I := [97]) (sp := domR_sp) 3000 (bF 17 (bT 1 (bF 13 (bT 1 (bF 13 (bT 14 [])))))) [] [c_n b1_, c_n b1_, c_n b1_, c_n b1_, c_n b1_, c_n b1_, c_n b1_, c_n b1_, c_q b5_, c_q b5_, c_q b5_, c_q b5_, c_q b5_, c_q b5_, c_q b5_, c_q b5_, c_q b8_, c_T, c_n b9_, c_n b9_, c_n b9_, c_n b9_, c_n b9_, c_n b9_, c_n b9_, c_n b9_, c_n b9_, c_n b9_, c_n b9_, c_n b9_, c_n b11_, c_T, c_n b13_, c_n b13_, c_n b13_, c_n b13_, c_n b13_, c_n b13_, c_n b13_, c_n b13_, c_n b13_, c_n b13_, c_n b13_, c_n b13_, c_n b15_, c_T, c_d b17_, c_d b17_, c_d b17_, c_d b17_, c_d b17_, c_d b17_, c_d b17_, c_d b17_, c_d b17_, c_d b17_, c_d b17_, c_d b17_, c_T] [] (by kernel_rfl)
                · have h18_ := (if_neg b17_).symm.trans h16_
                  by_cases b19_ : p5 > q5
                  · have h20_ := (if_pos b19_).symm.trans h18_
                    obtain rfl := Option.some.inj h20_
                    exact con_pc (op := true) (I := [97]) (sp := domR_sp) 3000 (bF 17 (bT 1 (bF 13 (bT 1 (bF 13 (bT 1 (bF 12 (bT 1 [])))))))) [] [c_n b1_, c_n b1_, c_n b1_, c_n b1_, c_n b1_, c_n b1_, c_n b1_, c_n b1_, c_q b5_, c_q b5_, c_q b5_, c_q b5_, c_q b5_, c_q b5_, c_q b5_, c_q b5_, c_q b8_, c_T, c_n b9_, c_n b9_, c_n b9_, c_n b9_, c_n b9_, c_n b9_, c_n b9_, c_n b9_, c_n b9_, c_n b9_, c_n b9_, c_n b9_, c_n b11_, c_T, c_n b13_, c_n b13_, c_n b13_, c_n b13_, c_n b13_, c_n b13_, c_n b13_, c_n b13_, c_n b13_, c_n b13_, c_n b13_, c_n b13_, c_n b15_, c_T, c_n b17_, c_n b17_, c_n b17_, c_n b17_, c_n b17_, c_n b17_, c_n b17_, c_n b17_, c_n b17_, c_n b17_, c_n b17_, c_n b17_, c_d b19_] [] (by kernel_rfl)
                  · have h20_ := (if_neg b19_).symm.trans h18_
                    by_cases b21_ : p6 > q6
                    · have h22_ := (if_pos b21_).symm.trans h20_
                      obtain rfl := Option.some.inj h22_
                      exact con_pc (op := true) (I := [97]) (sp := domR_sp) 3000 (bF 17 (bT 1 (bF 13 (bT 1 (bF 13 (bT 1 (bF 13 (bT 14 [])))))))) [] [c_n b1_, c_n b1_, c_n b1_, c_n b1_, c_n b1_, c_n b1_, c_n b1_, c_n b1_, c_q b5_, c_q b5_, c_q b5_, c_q b5_, c_q b5_, c_q b5_, c_q b5_, c_q b5_, c_q b8_, c_T, c_n b9_, c_n b9_, c_n b9_, c_n b9_, c_n b9_, c_n b9_, c_n b9_, c_n b9_, c_n b9_, c_n b9_, c_n b9_, c_n b9_, c_n b11_, c_T, c_n b13_, c_n b13_, c_n b13_, c_n b13_, c_n b13_, c_n b13_, c_n b13_, c_n b13_, c_n b13_, c_n b13_, c_n b13_, c_n b13_, c_n b15_, c_T, c_n b17_, c_n b17_, c_n b17_, c_n b17_, c_n b17_, c_n b17_, c_n b17_, c_n b17_, c_n b17_, c_n b17_, c_n b17_, c_n b17_, c_n b19_, c_T, c_d b21_, c_d b21_, c_d b21_, c_d b21_, c_d b21_, c_d b21_, c_d b21_, c_d b21_, c_d b21_, c_d b21_, c_d b21_, c_d b21_, c_T] [] (by kernel_rfl)
                    · have h22_ := (if_neg b21_).symm.trans h20_
                      by_cases b23_ : p7 > q7
                      · have h24_ := (if_pos b23_).symm.trans h22_
                        obtain rfl := Option.some.inj h24_
                        exact con_pc (op := true) (I := [97]) (sp := domR_sp) 3000 (bF 17 (bT 1 (bF 13 (bT 1 (bF 13 (bT 1 (bF 13 (bT 1 (bF 12 (bT 1 [])))))))))) [] [c_n b1_, c_n b1_, c_n b1_, c_n b1_, c_n b1_, c_n b1_, c_n b1_, c_n b1_, c_q b5_, c_q b5_, c_q b5_, c_q b5_, c_q b5_, c_q b5_, c_q b5_, c_q b5_, c_q b8_, c_T, c_n b9_, c_n b9_, c_n b9_, c_n b9_, c_n b9_, c_n b9_, c_n b9_, c_n b9_, c_n b9_, c_n b9_, c_n b9_, c_n b9_, c_n b11_, c_T, c_n b13_, c_n b13_, c_n b13_, c_n b13_, c_n b13_, c_n b13_, c_n b13_, c_n b13_, c_n b13_, c_n b13_, c_n b13_, c_n b13_, c_n b15_, c_T, c_n b17_, c_n b17_, c_n b17_, c_n b17_, c_n b17_, c_n b17_, c_n b17_, c_n b17_, c_n b17_, c_n b17_, c_n b17_, c_n b17_, c_n b19_, c_T, c_n b21_, c_n b21_, c_n b21_, c_n b21_, c_n b21_, c_n b21_, c_n b21_, c_n b21_, c_n b21_, c_n b21_, c_n b21_, c_n b21_, c_d b23_] [] (by kernel_rfl)
                      · have h24_ := (if_neg b23_).symm.trans h22_
                        obtain rfl := Option.some.inj h24_
                        exact con_pc (op := true) (I := [97]) (sp := domR_sp) 3000 (bF 17 (bT 1 (bF 13 (bT 1 (bF 13 (bT 1 (bF 13 (bT 1 (bF 14 []))))))))) [] [c_n b1_, c_n b1_, c_n b1_, c_n b1_, c_n b1_, c_n b1_, c_n b1_, c_n b1_, c_q b5_, c_q b5_, c_q b5_, c_q b5_, c_q b5_, c_q b5_, c_q b5_, c_q b5_, c_q b8_, c_T, c_n b9_, c_n b9_, c_n b9_, c_n b9_, c_n b9_, c_n b9_, c_n b9_, c_n b9_, c_n b9_, c_n b9_, c_n b9_, c_n b9_, c_n b11_, c_T, c_n b13_, c_n b13_, c_n b13_, c_n b13_, c_n b13_, c_n b13_, c_n b13_, c_n b13_, c_n b13_, c_n b13_, c_n b13_, c_n b13_, c_n b15_, c_T, c_n b17_, c_n b17_, c_n b17_, c_n b17_, c_n b17_, c_n b17_, c_n b17_, c_n b17_, c_n b17_, c_n b17_, c_n b17_, c_n b17_, c_n b19_, c_T, c_n b21_, c_n b21_, c_n b21_, c_n b21_, c_n b21_, c_n b21_, c_n b21_, c_n b21_, c_n b21_, c_n b21_, c_n b21_, c_n b21_, c_n b23_, c_F] [] (by kernel_rfl)
def m_97 (ds : List D) : Option D := pullD (α := ByteArray × Int × Int × Int × Int × Int × Int × Int × Int × Int × Int × Int × Int × Int × ByteArray × Int × Int × Int × Int × Int × Int × Int × Int × Int × Int × Int × Int × Int) (some (.tup ds)) (fun d => ((D.vs (D.at (D.at d 0) 0)), (D.vi (D.at (D.at d 0) 1)), (D.vi (D.at (D.at d 0) 2)), (D.vi (D.at (D.at d 0) 3)), (D.vi (D.at (D.at d 0) 4)), (D.vi (D.at (D.at d 0) 5)), (D.vi (D.at (D.at d 0) 6)), (D.vi (D.at (D.at d 0) 7)), (D.vi (D.at (D.at d 0) 8)), (D.vi (D.at (D.at d 0) 9)), (D.vi (D.at (D.at d 0) 10)), (D.vi (D.at (D.at d 0) 11)), (D.vi (D.at (D.at d 0) 12)), (D.vi (D.at (D.at d 0) 13)), (D.vs (D.at (D.at d 1) 0)), (D.vi (D.at (D.at d 1) 1)), (D.vi (D.at (D.at d 1) 2)), (D.vi (D.at (D.at d 1) 3)), (D.vi (D.at (D.at d 1) 4)), (D.vi (D.at (D.at d 1) 5)), (D.vi (D.at (D.at d 1) 6)), (D.vi (D.at (D.at d 1) 7)), (D.vi (D.at (D.at d 1) 8)), (D.vi (D.at (D.at d 1) 9)), (D.vi (D.at (D.at d 1) 10)), (D.vi (D.at (D.at d 1) 11)), (D.vi (D.at (D.at d 1) 12)), (D.vi (D.at (D.at d 1) 13)))) (fun (pn, pp, p0, p1, p2, p3, p4, p5, p6, p7, p8, p9, p10, p11, qn, qp, q0, q1, q2, q3, q4, q5, q6, q7, q8, q9, q10, q11) => .tup [(shND2_0 pn pp p0 p1 p2 p3 p4 p5 p6 p7 p8 p9 p10 p11), (shND2_0 qn qp q0 q1 q2 q3 q4 q5 q6 q7 q8 q9 q10 q11)]) fun (pn, pp, p0, p1, p2, p3, p4, p5, p6, p7, p8, p9, p10, p11, qn, qp, q0, q1, q2, q3, q4, q5, q6, q7, q8, q9, q10, q11) => domR_M pn pp p0 p1 p2 p3 p4 p5 p6 p7 p8 p9 p10 p11 qn qp q0 q1 q2 q3 q4 q5 q6 q7 q8 q9 q10 q11
theorem m_97_ok {ds : List D} {r : D} (h : m_97 ds = some r) : Con 97 ds r := by
  unfold m_97 at h
  obtain ⟨⟨pn, pp, p0, p1, p2, p3, p4, p5, p6, p7, p8, p9, p10, p11, qn, qp, q0, q1, q2, q3, q4, q5, q6, q7, q8, q9, q10, q11⟩, e0, h0⟩ := pullD_elim h
  obtain rfl := tup_inj e0
  exact domR_M_ok pn pp p0 p1 p2 p3 p4 p5 p6 p7 p8 p9 p10 p11 qn qp q0 q1 q2 q3 q4 q5 q6 q7 q8 q9 q10 q11 h0
theorem m_97_eq (pn : ByteArray) (pp p0 p1 p2 p3 p4 p5 p6 p7 p8 p9 p10 p11 : Int) (qn : ByteArray) (qp q0 q1 q2 q3 q4 q5 q6 q7 q8 q9 q10 q11 : Int) : m_97 [(shND2_0 pn pp p0 p1 p2 p3 p4 p5 p6 p7 p8 p9 p10 p11), (shND2_0 qn qp q0 q1 q2 q3 q4 q5 q6 q7 q8 q9 q10 q11)] = domR_M pn pp p0 p1 p2 p3 p4 p5 p6 p7 p8 p9 p10 p11 qn qp q0 q1 q2 q3 q4 q5 q6 q7 q8 q9 q10 q11 := pullD_some (pn, pp, p0, p1, p2, p3, p4, p5, p6, p7, p8, p9, p10, p11, qn, qp, q0, q1, q2, q3, q4, q5, q6, q7, q8, q9, q10, q11) rfl rfl
def undomR_x4_0 : LExit := ⟨some 0, [.grow 6 1], (7 :: (8 :: (9 :: (List.range' 15 48))))⟩
def undomR_x4_1 : LExit := ⟨some 0, [.nil 6], (7 :: (8 :: (9 :: (List.range' 15 48))))⟩
def undomR_x8_0 : LExit := ⟨some 2, [.val 8], (9 :: (List.range' 21 37))⟩
def undomR_sp : List LSpec := [⟨37, 4, [undomR_x4_0, undomR_x4_1]⟩, ⟨37, 8, [undomR_x8_0]⟩]
def undomR_L8_2_E (k : Nat) (c : List D) (ip pr slot : Int) (x0 : Nat) (x1 : List D) (x2 : Int) : List AV × AHeap := ([.agg [.dsl 0, .pure (.int .i64 ip), .pure (.int .i64 pr)], .pure (.int .i64 slot), .ptr 1 0, .pure (.tuple #[]), .pure (.slice none 0 0), .dsl 2, .pure (.slice none 0 0), .pure (.int .i64 x2), .pure (.bool true), .pure (.int .i64 (0 : Int)), .ptr 1 0, .dsl 0, .pure (.int .i64 slot), .dptr 0 (slot.toNat * 1), .dsl 2, .pure (.int .i64 x2), .dsl 2, .pure (.int .i64 (x0 : Int)), .pure (.bool (decide (x2 < (x0 : Int)))), .any 9, .any 10, .any 11, .any 12, .any 13, .any 14, .any 15, .any 16, .any 17, .any 18, .any 19, .any 20, .any 21, .any 22, .any 23, .any 24, .any 25, .any 26, .any 27, .any 28, .any 29, .any 30, .any 31, .any 32, .any 33, .any 34, .any 35, .any 36, .any 37, .any 38, .any 39, .any 40, .any 41, .any 42, .any 43, .any 44, .any 45, .any 46, .any 47, .any 48, .any 49, .any 50, .any 51, .any 52, .pure (.tuple #[])], [(2, { cells := [], opn := none, kind := .deep x0 x1 }), (1, { cells := [.dsl 0, .pure (.int .i64 ip), .pure (.int .i64 pr)], opn := none, kind := .cells }), (0, { cells := [], opn := none, kind := .deep k c })])
def undomR_L8_2_A : LoopAt := ⟨37, loopAt Tryd.prog 37 1, 55, 94, 55, noFrame⟩
theorem undomR_L8_2_ok : (undomR_L8_2_A).OK := ⟨by show 55 ≤ 94; decide, by show 55 ≤ 55; decide, by kernel_rfl, rfl⟩
def undomR_L8_2_gs (k : Nat) (c : List D) (ip pr slot : Int) (x0 : Nat) (x1 : List D) (x2 : Int) : Go.Ev.Rd → Option GS
  | .next 0 ds => ghost [.val 8, .val 9] (List.range' 21 37) (undomR_L8_2_E k c ip pr slot x0 x1 x2).1 (undomR_L8_2_E k c ip pr slot x0 x1 x2).2 55 ds
  | .out 0 ds => ghost undomR_x8_0.live undomR_x8_0.junk (undomR_L8_2_E k c ip pr slot x0 x1 x2).1 (undomR_L8_2_E k c ip pr slot x0 x1 x2).2 55 ds
  | _ => none
def undomR_L8_2_ex : Nat → Option Nat
  | 0 => undomR_x8_0.ex
  | _ => none
def undomR_L8_2_ax : Go.Ev.Rd → AX
  | .next _ _ => .normal
  | .out j _ => axOf (undomR_L8_2_ex j)
def undomR_L8_2_S0 (k : Nat) (c : List D) (ip pr slot : Int) (x0 : Nat) (x1 : List D) (x2 : Int) (ds : List D) : Option Go.Ev.Rd := pullD (α := Bool × Int) (some (.tup ds)) (fun d => ((D.vb (D.at d 0)), (D.vi (D.at d 1)))) (fun (s8, s9) => .tup [.one (.bool s8), .one (.int .i64 s9)]) fun (s8, s9) => ((if s9 < (x0 : Int) then (if s9 ≠ x2 then guardP ((0 : Int) ≤ s9 ∧ s9.toNat < x0) (pullD (readD x1 (s9.toNat * 14) 14 true) shND2_0P (fun (v0, v1, v2, v3, v4, v5, v6, v7, v8, v9, v10, v11, v12, v13) => (shND2_0 v0 v1 v2 v3 v4 v5 v6 v7 v8 v9 v10 v11 v12 v13)) fun (v0, v1, v2, v3, v4, v5, v6, v7, v8, v9, v10, v11, v12, v13) => (guardP ((0 : Int) ≤ x2 ∧ x2.toNat < x0) (pullD (readD x1 (x2.toNat * 14) 14 true) shND2_0P (fun (v14, v15, v16, v17, v18, v19, v20, v21, v22, v23, v24, v25, v26, v27) => (shND2_0 v14 v15 v16 v17 v18 v19 v20 v21 v22 v23 v24 v25 v26 v27)) fun (v14, v15, v16, v17, v18, v19, v20, v21, v22, v23, v24, v25, v26, v27) => (pullD (α := Bool) (m_97 [(shND2_0 v0 v1 v2 v3 v4 v5 v6 v7 v8 v9 v10 v11 v12 v13), (shND2_0 v14 v15 v16 v17 v18 v19 v20 v21 v22 v23 v24 v25 v26 v27)]) (fun d => ((D.vb d))) (fun r28 => .one (.bool r28)) fun r28 => ((if (r28) = true then (if s9 < x2 then some (.next 0 [.one (.bool false), .one (.int .i64 (IntKind.i64.wrap (s9 + (1 : Int))))]) else pullD (readD x1 (x2.toNat * 14) 14 true) shND2_0P (fun (v29, v30, v31, v32, v33, v34, v35, v36, v37, v38, v39, v40, v41, v42) => (shND2_0 v29 v30 v31 v32 v33 v34 v35 v36 v37 v38 v39 v40 v41 v42)) fun (v29, v30, v31, v32, v33, v34, v35, v36, v37, v38, v39, v40, v41, v42) => (pullD (readD x1 (s9.toNat * 14) 14 true) shND2_0P (fun (v43, v44, v45, v46, v47, v48, v49, v50, v51, v52, v53, v54, v55, v56) => (shND2_0 v43 v44 v45 v46 v47 v48 v49 v50 v51 v52 v53 v54 v55 v56)) fun (v43, v44, v45, v46, v47, v48, v49, v50, v51, v52, v53, v54, v55, v56) => (pullD (α := Bool) (m_97 [(shND2_0 v29 v30 v31 v32 v33 v34 v35 v36 v37 v38 v39 v40 v41 v42), (shND2_0 v43 v44 v45 v46 v47 v48 v49 v50 v51 v52 v53 v54 v55 v56)]) (fun d => ((D.vb d))) (fun r57 => .one (.bool r57)) fun r57 => ((if r57 = false then some (.next 0 [.one (.bool false), .one (.int .i64 (IntKind.i64.wrap (s9 + (1 : Int))))]) else some (.next 0 [.one (.bool s8), .one (.int .i64 (IntKind.i64.wrap (s9 + (1 : Int))))])))))) else some (.next 0 [.one (.bool s8), .one (.int .i64 (IntKind.i64.wrap (s9 + (1 : Int))))]))))))) else some (.next 0 [.one (.bool s8), .one (.int .i64 (IntKind.i64.wrap (s9 + (1 : Int))))])) else some (.out 0 [.one (.bool s8)])))
def undomR_L8_2_S (k : Nat) (c : List D) (ip pr slot : Int) (x0 : Nat) (x1 : List D) (x2 : Int) : Go.Ev.Rd → Option Go.Ev.Rd
  | .next 0 ds => undomR_L8_2_S0 k c ip pr slot x0 x1 x2 ds
  | _ => none
theorem undomR_L8_2_S_0 (k : Nat) (c : List D) (ip pr slot : Int) (x0 : Nat) (x1 : List D) (x2 : Int) (ds : List D) : undomR_L8_2_S k c ip pr slot x0 x1 x2 (.next 0 ds) = undomR_L8_2_S0 k c ip pr slot x0 x1 x2 ds := rfl
theorem undomR_L8_2_S_ok (k : Nat) (c : List D) (ip pr slot : Int) (x0 : Nat) (x1 : List D) (x2 : Int) : ∀ s_ t_, undomR_L8_2_S k c ip pr slot x0 x1 x2 s_ = some t_ → Step (ctx [37] undomR_sp) Tabs undomR_L8_2_A (stateOf (undomR_L8_2_gs k c ip pr slot x0 x1 x2 s_)) (stateOf (undomR_L8_2_gs k c ip pr slot x0 x1 x2 t_)) (undomR_L8_2_ax t_) ∧ EndOK undomR_L8_2_A.nx undomR_L8_2_A.low (undomR_L8_2_gs k c ip pr slot x0 x1 x2) t_
  | .next 0 ds, t_, h => by
    have h_ : undomR_L8_2_S0 k c ip pr slot x0 x1 x2 ds = some t_ := h
    clear h
    unfold undomR_L8_2_S0 at h_
    obtain ⟨⟨s8, s9⟩, e0, h0⟩ := pullD_elim h_
    clear h_
    obtain rfl := tup_inj e0
    by_cases b1_ : s9 < (x0 : Int)
    · have h2_ := (if_pos b1_).symm.trans h0
      by_cases b3_ : s9 ≠ x2
      · have h4_ := (if_pos b3_).symm.trans h2_
        obtain ⟨f5_, h6_⟩ := guardP_elim h4_
        obtain ⟨⟨v0, v1, v2, v3, v4, v5, v6, v7, v8, v9, v10, v11, v12, v13⟩, f7_, h8_⟩ := pullD_elim h6_
        replace f7_ := readD_elim f7_
        obtain ⟨f9_, h10_⟩ := guardP_elim h8_
        obtain ⟨⟨v14, v15, v16, v17, v18, v19, v20, v21, v22, v23, v24, v25, v26, v27⟩, f11_, h12_⟩ := pullD_elim h10_
        replace f11_ := readD_elim f11_
        obtain ⟨r28, f13_, h14_⟩ := pullD_elim h12_
        replace f13_ := m_97_ok f13_
        by_cases b15_ : (r28) = true
        · have h16_ := (if_pos b15_).symm.trans h14_
          by_cases b17_ : s9 < x2
          · have h18_ := (if_pos b17_).symm.trans h16_
            obtain rfl := Option.some.inj h18_
            exact ⟨step_pc 3000 (bT 29 []) [(shND2_0 v0 v1 v2 v3 v4 v5 v6 v7 v8 v9 v10 v11 v12 v13), (shND2_0 v14 v15 v16 v17 v18 v19 v20 v21 v22 v23 v24 v25 v26 v27), .one (.bool r28)] [c_d b1_, c_b b3_, c_b b3_, c_b b3_, c_f f5_, c_b b3_, c_f f7_, c_b b3_, c_b b3_, c_b b3_, c_f f9_, c_b b3_, c_f f11_, c_b b3_, c_b b3_, c_q b15_, c_q b15_, c_q b15_, c_q b15_, c_d b17_, c_d b17_, c_d b17_, c_d b17_, c_d b17_, c_d b17_, c_d b17_, c_d b17_, c_d b17_, c_d b17_, c_q b15_, c_d b17_, c_q b15_, c_T] [k_c f13_] _ rfl (by kernel_rfl) (by kernel_rfl) (by kernel_rfl) (by kernel_rfl) (by kernel_rfl) (by kernel_rfl), trivial⟩
          · have h18_ := (if_neg b17_).symm.trans h16_
            obtain ⟨⟨v29, v30, v31, v32, v33, v34, v35, v36, v37, v38, v39, v40, v41, v42⟩, f19_, h20_⟩ := pullD_elim h18_
            replace f19_ := readD_elim f19_
            obtain ⟨⟨v43, v44, v45, v46, v47, v48, v49, v50, v51, v52, v53, v54, v55, v56⟩, f21_, h22_⟩ := pullD_elim h20_
            replace f21_ := readD_elim f21_
            obtain ⟨r57, f23_, h24_⟩ := pullD_elim h22_
            replace f23_ := m_97_ok f23_
            by_cases b25_ : r57 = false
            · have h26_ := (if_pos b25_).symm.trans h24_
              obtain rfl := Option.some.inj h26_
              exact ⟨step_pc 3000 (bT 15 (bF 10 (bT 1 (bF 1 (bT 2 []))))) [(shND2_0 v0 v1 v2 v3 v4 v5 v6 v7 v8 v9 v10 v11 v12 v13), (shND2_0 v14 v15 v16 v17 v18 v19 v20 v21 v22 v23 v24 v25 v26 v27), .one (.bool r28), (shND2_0 v29 v30 v31 v32 v33 v34 v35 v36 v37 v38 v39 v40 v41 v42), (shND2_0 v43 v44 v45 v46 v47 v48 v49 v50 v51 v52 v53 v54 v55 v56), .one (.bool r57)] [c_d b1_, c_b b3_, c_b b3_, c_b b3_, c_f f5_, c_b b3_, c_f f7_, c_b b3_, c_b b3_, c_b b3_, c_f f9_, c_b b3_, c_f f11_, c_b b3_, c_b b3_, c_q b15_, c_q b15_, c_q b15_, c_q b15_, c_n b17_, c_n b17_, c_n b17_, c_f f9_, c_n b17_, c_f f19_, c_n b17_, c_n b17_, c_n b17_, c_f f5_, c_n b17_, c_f f21_, c_n b17_, c_n b17_, c_q b15_, c_n b17_, c_q b15_, c_no b25_] [k_c f13_, k_c f23_] _ rfl (by kernel_rfl) (by kernel_rfl) (by kernel_rfl) (by kernel_rfl) (by kernel_rfl) (by kernel_rfl), trivial⟩
            · have h26_ := (if_neg b25_).symm.trans h24_
              have b27_ : r57 = true := by first | exact b25_ | simpa using b25_
              obtain rfl := Option.some.inj h26_
              exact ⟨step_pc 3000 (bT 15 (bF 10 (bT 1 (bF 1 (bT 1 (bF 1 [])))))) [(shND2_0 v0 v1 v2 v3 v4 v5 v6 v7 v8 v9 v10 v11 v12 v13), (shND2_0 v14 v15 v16 v17 v18 v19 v20 v21 v22 v23 v24 v25 v26 v27), .one (.bool r28), (shND2_0 v29 v30 v31 v32 v33 v34 v35 v36 v37 v38 v39 v40 v41 v42), (shND2_0 v43 v44 v45 v46 v47 v48 v49 v50 v51 v52 v53 v54 v55 v56), .one (.bool r57)] [c_d b1_, c_b b3_, c_b b3_, c_b b3_, c_f f5_, c_b b3_, c_f f7_, c_b b3_, c_b b3_, c_b b3_, c_f f9_, c_b b3_, c_f f11_, c_b b3_, c_b b3_, c_q b15_, c_q b15_, c_q b15_, c_q b15_, c_n b17_, c_n b17_, c_n b17_, c_f f9_, c_n b17_, c_f f19_, c_n b17_, c_n b17_, c_n b17_, c_f f5_, c_n b17_, c_f f21_, c_n b17_, c_n b17_, c_q b15_, c_n b17_, c_q b15_, c_nn b27_] [k_c f13_, k_c f23_] _ rfl (by kernel_rfl) (by kernel_rfl) (by kernel_rfl) (by kernel_rfl) (by kernel_rfl) (by kernel_rfl), trivial⟩
        · have h16_ := (if_neg b15_).symm.trans h14_
          have b28_ : (r28) = false := by first | exact b15_ | simpa using b15_
          obtain rfl := Option.some.inj h16_
          exact ⟨step_pc 3000 (bT 11 (bF 7 [])) [(shND2_0 v0 v1 v2 v3 v4 v5 v6 v7 v8 v9 v10 v11 v12 v13), (shND2_0 v14 v15 v16 v17 v18 v19 v20 v21 v22 v23 v24 v25 v26 v27), .one (.bool r28)] [c_d b1_, c_b b3_, c_b b3_, c_b b3_, c_f f5_, c_b b3_, c_f f7_, c_b b3_, c_b b3_, c_b b3_, c_f f9_, c_b b3_, c_f f11_, c_b b3_, c_b b3_, c_q b28_, c_q b28_, c_q b28_, c_q b28_, c_q b28_, c_q b28_, c_F] [k_c f13_] _ rfl (by kernel_rfl) (by kernel_rfl) (by kernel_rfl) (by kernel_rfl) (by kernel_rfl) (by kernel_rfl), trivial⟩
      · have h4_ := (if_neg b3_).symm.trans h2_
        have b29_ : s9 = x2 := by first | exact b3_ | simpa using b3_
        obtain rfl := Option.some.inj h4_
        exact ⟨step_pc 3000 (bT 1 (bF 17 [])) [] [c_d b1_, c_bn b29_, c_bn b29_, c_bn b29_, c_bn b29_, c_bn b29_, c_bn b29_, c_bn b29_, c_bn b29_, c_bn b29_, c_bn b29_, c_F, c_F, c_F, c_F, c_F, c_F, c_F] [] _ rfl (by kernel_rfl) (by kernel_rfl) (by kernel_rfl) (by kernel_rfl) (by kernel_rfl) (by kernel_rfl), trivial⟩
    · have h2_ := (if_neg b1_).symm.trans h0
      obtain rfl := Option.some.inj h2_
      exact ⟨step_pc 3000 (bF 1 []) [] [c_n b1_] [] _ rfl (by kernel_rfl) (by kernel_rfl) (by kernel_rfl) (by kernel_rfl) (by kernel_rfl) (by kernel_rfl), by kernel_rfl, by kernel_rfl⟩
  | .next (_ + 1) _, _, h => by cases h
  | .out _ _, _, h => by cases h
theorem undomR_L8_2_go (k : Nat) (c : List D) (ip pr slot : Int) (x0 : Nat) (x1 : List D) (x2 : Int) {q : Nat} {ds : List D} {j : Nat} {es : List D} (h : runR (undomR_L8_2_S k c ip pr slot x0 x1 x2) (.next q ds) = some (.out j es)) : Runs (ctx [37] undomR_sp) Tabs undomR_L8_2_A (stateOf (undomR_L8_2_gs k c ip pr slot x0 x1 x2 (.next q ds))) (stateOf (undomR_L8_2_gs k c ip pr slot x0 x1 x2 (.out j es))) (undomR_L8_2_ax (.out j es)) ∧ (nxtOf (undomR_L8_2_gs k c ip pr slot x0 x1 x2 (.out j es)), lowGS (undomR_L8_2_gs k c ip pr slot x0 x1 x2 (.out j es))) = (undomR_L8_2_A.nx, undomR_L8_2_A.low) :=
  runs_of' (good true _ _) undomR_L8_2_ok (ax := undomR_L8_2_ax) (fun _ _ => rfl) (fun _ _ => axOf_end _) (undomR_L8_2_S_ok k c ip pr slot x0 x1 x2) h
theorem undomR_L8_2_in0 (k : Nat) (c : List D) (ip pr slot : Int) (x0 : Nat) (x1 : List D) (x2 : Int) {es : List D} (h : runR (undomR_L8_2_S k c ip pr slot x0 x1 x2) (.next 0 [.one (.bool (true)), .one (.int .i64 ((0 : Int)))]) = some (.out 0 es)) : LoopC (loopAt Tryd.prog 37 1) (undomR_L8_2_E k c ip pr slot x0 x1 x2) 55 noFrame undomR_x8_0 es :=
  have r := undomR_L8_2_go k c ip pr slot x0 x1 x2 h
  loopin_as rfl (loop_in (l := undomR_L8_2_A) (E := (undomR_L8_2_E k c ip pr slot x0 x1 x2)) (S := stateOf (undomR_L8_2_gs k c ip pr slot x0 x1 x2 (.next 0 [.one (.bool (true)), .one (.int .i64 ((0 : Int)))]))) (ns := nsOf (undomR_L8_2_gs k c ip pr slot x0 x1 x2 (.next 0 [.one (.bool (true)), .one (.int .i64 ((0 : Int)))]))) undomR_L8_2_ok r.1 r.2 (by kernel_rfl) (by kernel_rfl) (by kernel_rfl) (by kernel_rfl))
def undomR_L8_E (k : Nat) (c : List D) (ip pr slot : Int) (x0 : Nat) (x1 : List D) (x2 : Nat) (x3 : List D) (x4 : Int) : List AV × AHeap := ([.agg [.dsl 0, .pure (.int .i64 ip), .pure (.int .i64 pr)], .pure (.int .i64 slot), .ptr 1 0, .pure (.tuple #[]), .pure (.slice none 0 0), .dsl 2, .bslx 3 0 x2 0, .pure (.int .i64 x4), .pure (.bool true), .pure (.int .i64 (0 : Int)), .ptr 1 0, .dsl 0, .pure (.int .i64 slot), .dptr 0 (slot.toNat * 1), .dsl 2, .pure (.int .i64 x4), .dsl 2, .pure (.int .i64 (x0 : Int)), .pure (.bool (decide (x4 < (x0 : Int)))), .any 10, .any 11, .any 12, .any 13, .any 14, .any 15, .any 16, .any 17, .any 18, .any 19, .any 20, .any 21, .any 22, .any 23, .any 24, .any 25, .any 26, .any 27, .any 28, .any 29, .any 30, .any 31, .any 32, .any 33, .any 34, .any 35, .any 36, .any 37, .any 38, .any 39, .any 40, .any 41, .any 42, .any 43, .any 44, .any 45, .any 46, .any 47, .any 48, .any 49, .any 50, .any 51, .any 52, .any 53, .pure (.tuple #[])], [(3, { cells := [], opn := some 1, kind := .big x3 }), (2, { cells := [], opn := none, kind := .deep x0 x1 }), (1, { cells := [.dsl 0, .pure (.int .i64 ip), .pure (.int .i64 pr)], opn := none, kind := .cells }), (0, { cells := [], opn := none, kind := .deep k c })])
def undomR_L8_A : LoopAt := ⟨37, loopAt Tryd.prog 37 1, 55, 94, 55, noFrame⟩
theorem undomR_L8_ok : (undomR_L8_A).OK := ⟨by show 55 ≤ 94; decide, by show 55 ≤ 55; decide, by kernel_rfl, rfl⟩
def undomR_L8_gs (k : Nat) (c : List D) (ip pr slot : Int) (x0 : Nat) (x1 : List D) (x2 : Nat) (x3 : List D) (x4 : Int) : Go.Ev.Rd → Option GS
  | .next 0 ds => ghost [.val 8, .val 9] (List.range' 21 37) (undomR_L8_E k c ip pr slot x0 x1 x2 x3 x4).1 (undomR_L8_E k c ip pr slot x0 x1 x2 x3 x4).2 55 ds
  | .out 0 ds => ghost undomR_x8_0.live undomR_x8_0.junk (undomR_L8_E k c ip pr slot x0 x1 x2 x3 x4).1 (undomR_L8_E k c ip pr slot x0 x1 x2 x3 x4).2 55 ds
  | _ => none
def undomR_L8_ex : Nat → Option Nat
  | 0 => undomR_x8_0.ex
  | _ => none
def undomR_L8_ax : Go.Ev.Rd → AX
  | .next _ _ => .normal
  | .out j _ => axOf (undomR_L8_ex j)
def undomR_L8_S0 (k : Nat) (c : List D) (ip pr slot : Int) (x0 : Nat) (x1 : List D) (x2 : Nat) (x3 : List D) (x4 : Int) (ds : List D) : Option Go.Ev.Rd := pullD (α := Bool × Int) (some (.tup ds)) (fun d => ((D.vb (D.at d 0)), (D.vi (D.at d 1)))) (fun (s8, s9) => .tup [.one (.bool s8), .one (.int .i64 s9)]) fun (s8, s9) => ((if s9 < (x0 : Int) then (if s9 ≠ x4 then guardP ((0 : Int) ≤ s9 ∧ s9.toNat < x0) (pullD (readD x1 (s9.toNat * 14) 14 true) shND2_0P (fun (v0, v1, v2, v3, v4, v5, v6, v7, v8, v9, v10, v11, v12, v13) => (shND2_0 v0 v1 v2 v3 v4 v5 v6 v7 v8 v9 v10 v11 v12 v13)) fun (v0, v1, v2, v3, v4, v5, v6, v7, v8, v9, v10, v11, v12, v13) => (guardP ((0 : Int) ≤ x4 ∧ x4.toNat < x0) (pullD (readD x1 (x4.toNat * 14) 14 true) shND2_0P (fun (v14, v15, v16, v17, v18, v19, v20, v21, v22, v23, v24, v25, v26, v27) => (shND2_0 v14 v15 v16 v17 v18 v19 v20 v21 v22 v23 v24 v25 v26 v27)) fun (v14, v15, v16, v17, v18, v19, v20, v21, v22, v23, v24, v25, v26, v27) => (pullD (α := Bool) (m_97 [(shND2_0 v0 v1 v2 v3 v4 v5 v6 v7 v8 v9 v10 v11 v12 v13), (shND2_0 v14 v15 v16 v17 v18 v19 v20 v21 v22 v23 v24 v25 v26 v27)]) (fun d => ((D.vb d))) (fun r28 => .one (.bool r28)) fun r28 => ((if (r28) = true then (if s9 < x4 then some (.next 0 [.one (.bool false), .one (.int .i64 (IntKind.i64.wrap (s9 + (1 : Int))))]) else pullD (readD x1 (x4.toNat * 14) 14 true) shND2_0P (fun (v29, v30, v31, v32, v33, v34, v35, v36, v37, v38, v39, v40, v41, v42) => (shND2_0 v29 v30 v31 v32 v33 v34 v35 v36 v37 v38 v39 v40 v41 v42)) fun (v29, v30, v31, v32, v33, v34, v35, v36, v37, v38, v39, v40, v41, v42) => (pullD (readD x1 (s9.toNat * 14) 14 true) shND2_0P (fun (v43, v44, v45, v46, v47, v48, v49, v50, v51, v52, v53, v54, v55, v56) => (shND2_0 v43 v44 v45 v46 v47 v48 v49 v50 v51 v52 v53 v54 v55 v56)) fun (v43, v44, v45, v46, v47, v48, v49, v50, v51, v52, v53, v54, v55, v56) => (pullD (α := Bool) (m_97 [(shND2_0 v29 v30 v31 v32 v33 v34 v35 v36 v37 v38 v39 v40 v41 v42), (shND2_0 v43 v44 v45 v46 v47 v48 v49 v50 v51 v52 v53 v54 v55 v56)]) (fun d => ((D.vb d))) (fun r57 => .one (.bool r57)) fun r57 => ((if r57 = false then some (.next 0 [.one (.bool false), .one (.int .i64 (IntKind.i64.wrap (s9 + (1 : Int))))]) else some (.next 0 [.one (.bool s8), .one (.int .i64 (IntKind.i64.wrap (s9 + (1 : Int))))])))))) else some (.next 0 [.one (.bool s8), .one (.int .i64 (IntKind.i64.wrap (s9 + (1 : Int))))]))))))) else some (.next 0 [.one (.bool s8), .one (.int .i64 (IntKind.i64.wrap (s9 + (1 : Int))))])) else some (.out 0 [.one (.bool s8)])))
def undomR_L8_S (k : Nat) (c : List D) (ip pr slot : Int) (x0 : Nat) (x1 : List D) (x2 : Nat) (x3 : List D) (x4 : Int) : Go.Ev.Rd → Option Go.Ev.Rd
  | .next 0 ds => undomR_L8_S0 k c ip pr slot x0 x1 x2 x3 x4 ds
  | _ => none
theorem undomR_L8_S_0 (k : Nat) (c : List D) (ip pr slot : Int) (x0 : Nat) (x1 : List D) (x2 : Nat) (x3 : List D) (x4 : Int) (ds : List D) : undomR_L8_S k c ip pr slot x0 x1 x2 x3 x4 (.next 0 ds) = undomR_L8_S0 k c ip pr slot x0 x1 x2 x3 x4 ds := rfl
theorem undomR_L8_S_ok (k : Nat) (c : List D) (ip pr slot : Int) (x0 : Nat) (x1 : List D) (x2 : Nat) (x3 : List D) (x4 : Int) : ∀ s_ t_, undomR_L8_S k c ip pr slot x0 x1 x2 x3 x4 s_ = some t_ → Step (ctx [37] undomR_sp) Tabs undomR_L8_A (stateOf (undomR_L8_gs k c ip pr slot x0 x1 x2 x3 x4 s_)) (stateOf (undomR_L8_gs k c ip pr slot x0 x1 x2 x3 x4 t_)) (undomR_L8_ax t_) ∧ EndOK undomR_L8_A.nx undomR_L8_A.low (undomR_L8_gs k c ip pr slot x0 x1 x2 x3 x4) t_
  | .next 0 ds, t_, h => by
    have h_ : undomR_L8_S0 k c ip pr slot x0 x1 x2 x3 x4 ds = some t_ := h
    clear h
    unfold undomR_L8_S0 at h_
    obtain ⟨⟨s8, s9⟩, e0, h0⟩ := pullD_elim h_
    clear h_
    obtain rfl := tup_inj e0
    by_cases b1_ : s9 < (x0 : Int)
    · have h2_ := (if_pos b1_).symm.trans h0
      by_cases b3_ : s9 ≠ x4
      · have h4_ := (if_pos b3_).symm.trans h2_
        obtain ⟨f5_, h6_⟩ := guardP_elim h4_
        obtain ⟨⟨v0, v1, v2, v3, v4, v5, v6, v7, v8, v9, v10, v11, v12, v13⟩, f7_, h8_⟩ := pullD_elim h6_
        replace f7_ := readD_elim f7_
        obtain ⟨f9_, h10_⟩ := guardP_elim h8_
        obtain ⟨⟨v14, v15, v16, v17, v18, v19, v20, v21, v22, v23, v24, v25, v26, v27⟩, f11_, h12_⟩ := pullD_elim h10_
        replace f11_ := readD_elim f11_
        obtain ⟨r28, f13_, h14_⟩ := pullD_elim h12_
        replace f13_ := m_97_ok f13_
        by_cases b15_ : (r28) = true
        · have h16_ := (if_pos b15_).symm.trans h14_
          by_cases b17_ : s9 < x4
          · have h18_ := (if_pos b17_).symm.trans h16_
            obtain rfl := Option.some.inj h18_
            exact ⟨step_pc 3000 (bT 29 []) [(shND2_0 v0 v1 v2 v3 v4 v5 v6 v7 v8 v9 v10 v11 v12 v13), (shND2_0 v14 v15 v16 v17 v18 v19 v20 v21 v22 v23 v24 v25 v26 v27), .one (.bool r28)] [c_d b1_, c_b b3_, c_b b3_, c_b b3_, c_f f5_, c_b b3_, c_f f7_, c_b b3_, c_b b3_, c_b b3_, c_f f9_, c_b b3_, c_f f11_, c_b b3_, c_b b3_, c_q b15_, c_q b15_, c_q b15_, c_q b15_, c_d b17_, c_d b17_, c_d b17_, c_d b17_, c_d b17_, c_d b17_, c_d b17_, c_d b17_, c_d b17_, c_d b17_, c_q b15_, c_d b17_, c_q b15_, c_T] [k_c f13_] _ rfl (by kernel_rfl) (by kernel_rfl) (by kernel_rfl) (by kernel_rfl) (by kernel_rfl) (by kernel_rfl), trivial⟩
          · have h18_ := (if_neg b17_).symm.trans h16_
            obtain ⟨⟨v29, v30, v31, v32, v33, v34, v35, v36, v37, v38, v39, v40, v41, v42⟩, f19_, h20_⟩ := pullD_elim h18_
            replace f19_ := readD_elim f19_
            obtain ⟨⟨v43, v44, v45, v46, v47, v48, v49, v50, v51, v52, v53, v54, v55, v56⟩, f21_, h22_⟩ := pullD_elim h20_
            replace f21_ := readD_elim f21_
            obtain ⟨r57, f23_, h24_⟩ := pullD_elim h22_
            replace f23_ := m_97_ok f23_
            by_cases b25_ : r57 = false
            · have h26_ := (if_pos b25_).symm.trans h24_
              obtain rfl := Option.some.inj h26_
              exact ⟨step_pc 3000 (bT 15 (bF 10 (bT 1 (bF 1 (bT 2 []))))) [(shND2_0 v0 v1 v2 v3 v4 v5 v6 v7 v8 v9 v10 v11 v12 v13), (shND2_0 v14 v15 v16 v17 v18 v19 v20 v21 v22 v23 v24 v25 v26 v27), .one (.bool r28), (shND2_0 v29 v30 v31 v32 v33 v34 v35 v36 v37 v38 v39 v40 v41 v42), (shND2_0 v43 v44 v45 v46 v47 v48 v49 v50 v51 v52 v53 v54 v55 v56), .one (.bool r57)] [c_d b1_, c_b b3_, c_b b3_, c_b b3_, c_f f5_, c_b b3_, c_f f7_, c_b b3_, c_b b3_, c_b b3_, c_f f9_, c_b b3_, c_f f11_, c_b b3_, c_b b3_, c_q b15_, c_q b15_, c_q b15_, c_q b15_, c_n b17_, c_n b17_, c_n b17_, c_f f9_, c_n b17_, c_f f19_, c_n b17_, c_n b17_, c_n b17_, c_f f5_, c_n b17_, c_f f21_, c_n b17_, c_n b17_, c_q b15_, c_n b17_, c_q b15_, c_no b25_] [k_c f13_, k_c f23_] _ rfl (by kernel_rfl) (by kernel_rfl) (by kernel_rfl) (by kernel_rfl) (by kernel_rfl) (by kernel_rfl), trivial⟩
            · have h26_ := (if_neg b25_).symm.trans h24_
              have b27_ : r57 = true := by first | exact b25_ | simpa using b25_
              obtain rfl := Option.some.inj h26_
              exact ⟨step_pc 3000 (bT 15 (bF 10 (bT 1 (bF 1 (bT 1 (bF 1 [])))))) [(shND2_0 v0 v1 v2 v3 v4 v5 v6 v7 v8 v9 v10 v11 v12 v13), (shND2_0 v14 v15 v16 v17 v18 v19 v20 v21 v22 v23 v24 v25 v26 v27), .one (.bool r28), (shND2_0 v29 v30 v31 v32 v33 v34 v35 v36 v37 v38 v39 v40 v41 v42), (shND2_0 v43 v44 v45 v46 v47 v48 v49 v50 v51 v52 v53 v54 v55 v56), .one (.bool r57)] [c_d b1_, c_b b3_, c_b b3_, c_b b3_, c_f f5_, c_b b3_, c_f f7_, c_b b3_, c_b b3_, c_b b3_, c_f f9_, c_b b3_, c_f f11_, c_b b3_, c_b b3_, c_q b15_, c_q b15_, c_q b15_, c_q b15_, c_n b17_, c_n b17_, c_n b17_, c_f f9_, c_n b17_, c_f f19_, c_n b17_, c_n b17_, c_n b17_, c_f f5_, c_n b17_, c_f f21_, c_n b17_, c_n b17_, c_q b15_, c_n b17_, c_q b15_, c_nn b27_] [k_c f13_, k_c f23_] _ rfl (by kernel_rfl) (by kernel_rfl) (by kernel_rfl) (by kernel_rfl) (by kernel_rfl) (by kernel_rfl), trivial⟩
        · have h16_ := (if_neg b15_).symm.trans h14_
          have b28_ : (r28) = false := by first | exact b15_ | simpa using b15_
          obtain rfl := Option.some.inj h16_
          exact ⟨step_pc 3000 (bT 11 (bF 7 [])) [(shND2_0 v0 v1 v2 v3 v4 v5 v6 v7 v8 v9 v10 v11 v12 v13), (shND2_0 v14 v15 v16 v17 v18 v19 v20 v21 v22 v23 v24 v25 v26 v27), .one (.bool r28)] [c_d b1_, c_b b3_, c_b b3_, c_b b3_, c_f f5_, c_b b3_, c_f f7_, c_b b3_, c_b b3_, c_b b3_, c_f f9_, c_b b3_, c_f f11_, c_b b3_, c_b b3_, c_q b28_, c_q b28_, c_q b28_, c_q b28_, c_q b28_, c_q b28_, c_F] [k_c f13_] _ rfl (by kernel_rfl) (by kernel_rfl) (by kernel_rfl) (by kernel_rfl) (by kernel_rfl) (by kernel_rfl), trivial⟩
      · have h4_ := (if_neg b3_).symm.trans h2_
        have b29_ : s9 = x4 := by first | exact b3_ | simpa using b3_
        obtain rfl := Option.some.inj h4_
        exact ⟨step_pc 3000 (bT 1 (bF 17 [])) [] [c_d b1_, c_bn b29_, c_bn b29_, c_bn b29_, c_bn b29_, c_bn b29_, c_bn b29_, c_bn b29_, c_bn b29_, c_bn b29_, c_bn b29_, c_F, c_F, c_F, c_F, c_F, c_F, c_F] [] _ rfl (by kernel_rfl) (by kernel_rfl) (by kernel_rfl) (by kernel_rfl) (by kernel_rfl) (by kernel_rfl), trivial⟩
    · have h2_ := (if_neg b1_).symm.trans h0
      obtain rfl := Option.some.inj h2_
      exact ⟨step_pc 3000 (bF 1 []) [] [c_n b1_] [] _ rfl (by kernel_rfl) (by kernel_rfl) (by kernel_rfl) (by kernel_rfl) (by kernel_rfl) (by kernel_rfl), by kernel_rfl, by kernel_rfl⟩
  | .next (_ + 1) _, _, h => by cases h
  | .out _ _, _, h => by cases h
theorem undomR_L8_go (k : Nat) (c : List D) (ip pr slot : Int) (x0 : Nat) (x1 : List D) (x2 : Nat) (x3 : List D) (x4 : Int) {q : Nat} {ds : List D} {j : Nat} {es : List D} (h : runR (undomR_L8_S k c ip pr slot x0 x1 x2 x3 x4) (.next q ds) = some (.out j es)) : Runs (ctx [37] undomR_sp) Tabs undomR_L8_A (stateOf (undomR_L8_gs k c ip pr slot x0 x1 x2 x3 x4 (.next q ds))) (stateOf (undomR_L8_gs k c ip pr slot x0 x1 x2 x3 x4 (.out j es))) (undomR_L8_ax (.out j es)) ∧ (nxtOf (undomR_L8_gs k c ip pr slot x0 x1 x2 x3 x4 (.out j es)), lowGS (undomR_L8_gs k c ip pr slot x0 x1 x2 x3 x4 (.out j es))) = (undomR_L8_A.nx, undomR_L8_A.low) :=
  runs_of' (good true _ _) undomR_L8_ok (ax := undomR_L8_ax) (fun _ _ => rfl) (fun _ _ => axOf_end _) (undomR_L8_S_ok k c ip pr slot x0 x1 x2 x3 x4) h
theorem undomR_L8_in0 (k : Nat) (c : List D) (ip pr slot : Int) (x0 : Nat) (x1 : List D) (x2 : Nat) (x3 : List D) (x4 : Int) {es : List D} (h : runR (undomR_L8_S k c ip pr slot x0 x1 x2 x3 x4) (.next 0 [.one (.bool (true)), .one (.int .i64 ((0 : Int)))]) = some (.out 0 es)) : LoopC (loopAt Tryd.prog 37 1) (undomR_L8_E k c ip pr slot x0 x1 x2 x3 x4) 55 noFrame undomR_x8_0 es :=
  have r := undomR_L8_go k c ip pr slot x0 x1 x2 x3 x4 h
  loopin_as rfl (loop_in (l := undomR_L8_A) (E := (undomR_L8_E k c ip pr slot x0 x1 x2 x3 x4)) (S := stateOf (undomR_L8_gs k c ip pr slot x0 x1 x2 x3 x4 (.next 0 [.one (.bool (true)), .one (.int .i64 ((0 : Int)))]))) (ns := nsOf (undomR_L8_gs k c ip pr slot x0 x1 x2 x3 x4 (.next 0 [.one (.bool (true)), .one (.int .i64 ((0 : Int)))]))) undomR_L8_ok r.1 r.2 (by kernel_rfl) (by kernel_rfl) (by kernel_rfl) (by kernel_rfl))
def undomR_L4_E (k : Nat) (c : List D) (ip pr slot : Int) (x0 : Nat) (x1 : List D) : List AV × AHeap := ([.agg [.dsl 0, .pure (.int .i64 ip), .pure (.int .i64 pr)], .pure (.int .i64 slot), .ptr 1 0, .pure (.tuple #[]), .pure (.slice none 0 0), .dsl 2, .pure (.slice none 0 0), .pure (.int .i64 (0 : Int)), .pure (.tuple #[]), .pure (.tuple #[]), .ptr 1 0, .dsl 0, .pure (.int .i64 slot), .dptr 0 (slot.toNat * 1), .dsl 2, .pure (.tuple #[]), .pure (.tuple #[]), .pure (.tuple #[]), .pure (.tuple #[]), .pure (.tuple #[]), .pure (.tuple #[]), .pure (.tuple #[]), .pure (.tuple #[]), .pure (.tuple #[]), .pure (.tuple #[]), .pure (.tuple #[]), .pure (.tuple #[]), .pure (.tuple #[]), .pure (.tuple #[]), .pure (.tuple #[]), .pure (.tuple #[]), .pure (.tuple #[]), .pure (.tuple #[]), .pure (.tuple #[]), .pure (.tuple #[]), .pure (.tuple #[]), .pure (.tuple #[]), .pure (.tuple #[]), .pure (.tuple #[]), .pure (.tuple #[]), .pure (.tuple #[]), .pure (.tuple #[]), .pure (.tuple #[]), .pure (.tuple #[]), .pure (.tuple #[]), .pure (.tuple #[]), .pure (.tuple #[]), .pure (.tuple #[]), .pure (.tuple #[]), .pure (.tuple #[]), .pure (.tuple #[]), .pure (.tuple #[]), .pure (.tuple #[]), .pure (.tuple #[]), .pure (.tuple #[]), .pure (.tuple #[]), .pure (.tuple #[]), .pure (.tuple #[]), .pure (.tuple #[]), .pure (.tuple #[]), .pure (.tuple #[]), .pure (.tuple #[]), .pure (.tuple #[]), .pure (.tuple #[])], [(2, { cells := [], opn := none, kind := .deep x0 x1 }), (1, { cells := [.dsl 0, .pure (.int .i64 ip), .pure (.int .i64 pr)], opn := none, kind := .cells }), (0, { cells := [], opn := none, kind := .deep k c })])
def undomR_L4_A : LoopAt := ⟨37, loopAt Tryd.prog 37 0, 3, 55, 3, noFrame⟩
theorem undomR_L4_ok : (undomR_L4_A).OK := ⟨by show 3 ≤ 55; decide, by show 3 ≤ 3; decide, by kernel_rfl, rfl⟩
def undomR_L4_gs (k : Nat) (c : List D) (ip pr slot : Int) (x0 : Nat) (x1 : List D) : Go.Ev.Rd → Option GS
  | .next 0 ds => ghost [.grow 6 1, .val 7] (8 :: (9 :: (List.range' 15 48))) (undomR_L4_E k c ip pr slot x0 x1).1 (undomR_L4_E k c ip pr slot x0 x1).2 3 ds
  | .next 1 ds => ghost [.nil 6, .val 7] (8 :: (9 :: (List.range' 15 48))) (undomR_L4_E k c ip pr slot x0 x1).1 (undomR_L4_E k c ip pr slot x0 x1).2 3 ds
  | .out 0 ds => ghost undomR_x4_0.live undomR_x4_0.junk (undomR_L4_E k c ip pr slot x0 x1).1 (undomR_L4_E k c ip pr slot x0 x1).2 3 ds
  | .out 1 ds => ghost undomR_x4_1.live undomR_x4_1.junk (undomR_L4_E k c ip pr slot x0 x1).1 (undomR_L4_E k c ip pr slot x0 x1).2 3 ds
  | _ => none
def undomR_L4_ex : Nat → Option Nat
  | 0 => undomR_x4_0.ex
  | 1 => undomR_x4_1.ex
  | _ => none
def undomR_L4_ax : Go.Ev.Rd → AX
  | .next _ _ => .normal
  | .out j _ => axOf (undomR_L4_ex j)
def undomR_L4_S0 (k : Nat) (c : List D) (ip pr slot : Int) (x0 : Nat) (x1 : List D) (ds : List D) : Option Go.Ev.Rd := pullD (α := Nat × (List D) × Int) (some (.tup ds)) (fun d => ((D.ln (D.at d 0)), (D.lc (D.at d 0)), (D.vi (D.at d 1)))) (fun (s6n, s6c, s7) => .tup [.list s6n s6c, .one (.int .i64 s7)]) fun (s6n, s6c, s7) => ((if s7 < (x0 : Int) then bindL (runR (undomR_L8_S k c ip pr slot x0 x1 s6n s6c s7) (.next 0 [.one (.bool (true)), .one (.int .i64 ((0 : Int)))])) fun j ds => (if j = 0 then pullD (α := Bool) (some (.tup ds)) (fun d => ((D.vb (D.at d 0)))) (fun l0 => .tup [.one (.bool l0)]) fun l0 => ((if (l0) = true then guardP ((∀ (u : D), u ∈ [dCell (.int .i64 s7)] → cellD u) ∧ s6n * 1 ≤ s6c.length ∧ (s6n + (0 + 1)) * 8 ≤ 140737488355328 ∧ s6n + (0 + 1) ≤ 4611686018427387904) (some (.next 0 [.list (s6n + (0 + 1)) (List.append (List.take (s6n * 1) s6c) [dCell (.int .i64 s7)]), .one (.int .i64 (IntKind.i64.wrap (s7 + (1 : Int))))])) else some (.next 0 [.list s6n s6c, .one (.int .i64 (IntKind.i64.wrap (s7 + (1 : Int))))]))) else none) else some (.out 0 [.list s6n s6c])))
def undomR_L4_S1 (k : Nat) (c : List D) (ip pr slot : Int) (x0 : Nat) (x1 : List D) (ds : List D) : Option Go.Ev.Rd := pullD (α := Int) (some (.tup ds)) (fun d => ((D.vi (D.at d 1)))) (fun s7 => .tup [.one (.tuple #[]), .one (.int .i64 s7)]) fun s7 => ((if s7 < (x0 : Int) then bindL (runR (undomR_L8_2_S k c ip pr slot x0 x1 s7) (.next 0 [.one (.bool (true)), .one (.int .i64 ((0 : Int)))])) fun j ds => (if j = 0 then pullD (α := Bool) (some (.tup ds)) (fun d => ((D.vb (D.at d 0)))) (fun l0 => .tup [.one (.bool l0)]) fun l0 => ((if (l0) = true then some (.next 0 [.list 1 [.one (.int .i64 s7)], .one (.int .i64 (IntKind.i64.wrap (s7 + (1 : Int))))]) else some (.next 1 [.one (.tuple #[]), .one (.int .i64 (IntKind.i64.wrap (s7 + (1 : Int))))]))) else none) else some (.out 1 [.one (.tuple #[])])))
def undomR_L4_S (k : Nat) (c : List D) (ip pr slot : Int) (x0 : Nat) (x1 : List D) : Go.Ev.Rd → Option Go.Ev.Rd
  | .next 0 ds => undomR_L4_S0 k c ip pr slot x0 x1 ds
  | .next 1 ds => undomR_L4_S1 k c ip pr slot x0 x1 ds
  | _ => none
theorem undomR_L4_S_0 (k : Nat) (c : List D) (ip pr slot : Int) (x0 : Nat) (x1 : List D) (ds : List D) : undomR_L4_S k c ip pr slot x0 x1 (.next 0 ds) = undomR_L4_S0 k c ip pr slot x0 x1 ds := rfl
theorem undomR_L4_S_1 (k : Nat) (c : List D) (ip pr slot : Int) (x0 : Nat) (x1 : List D) (ds : List D) : undomR_L4_S k c ip pr slot x0 x1 (.next 1 ds) = undomR_L4_S1 k c ip pr slot x0 x1 ds := rfl
theorem undomR_L4_S_ok (k : Nat) (c : List D) (ip pr slot : Int) (x0 : Nat) (x1 : List D) : ∀ s_ t_, undomR_L4_S k c ip pr slot x0 x1 s_ = some t_ → Step (ctx [37] undomR_sp) Tabs undomR_L4_A (stateOf (undomR_L4_gs k c ip pr slot x0 x1 s_)) (stateOf (undomR_L4_gs k c ip pr slot x0 x1 t_)) (undomR_L4_ax t_) ∧ EndOK undomR_L4_A.nx undomR_L4_A.low (undomR_L4_gs k c ip pr slot x0 x1) t_
  | .next 0 ds, t_, h => by
    have h_ : undomR_L4_S0 k c ip pr slot x0 x1 ds = some t_ := h
    clear h
    unfold undomR_L4_S0 at h_
    obtain ⟨⟨s6n, s6c, s7⟩, e0, h0⟩ := pullD_elim h_
    clear h_
    obtain rfl := tup_inj e0
    by_cases b1_ : s7 < (x0 : Int)
    · have h2_ := (if_pos b1_).symm.trans h0
      obtain ⟨j, ds, e3_, h4_⟩ := bindL_elim h2_
      by_cases j5_ : j = 0
      · have h8_ := (if_pos j5_).symm.trans h4_
        clear h4_
        subst j5_
        obtain ⟨l0, e6_, h9_⟩ := pullD_elim h8_
        clear h8_
        obtain rfl := tup_inj e6_
        have k7_ := undomR_L8_in0 k c ip pr slot x0 x1 s6n s6c s7 e3_
        by_cases b10_ : (l0) = true
        · have h11_ := (if_pos b10_).symm.trans h9_
          obtain ⟨f12_, h13_⟩ := guardP_elim h11_
          obtain rfl := Option.some.inj h13_
          exact ⟨step_pc 3000 (bT 2 []) [.tup [.one (.int .i64 (Int.ofNat 0)), .one (.bool l0)]] [c_d b1_, c_q b10_, c_f f12_] [k_l k7_ (bT 1 []) [.tup [.one (.int .i64 (Int.ofNat 0)), .one (.bool l0)]] []] _ rfl (by kernel_rfl) (by kernel_rfl) (by kernel_rfl) (by kernel_rfl) (by kernel_rfl) (by kernel_rfl), trivial⟩
        · have h11_ := (if_neg b10_).symm.trans h9_
          have b14_ : (l0) = false := by first | exact b10_ | simpa using b10_
          obtain rfl := Option.some.inj h11_
          exact ⟨step_pc 3000 (bT 1 (bF 1 [])) [.tup [.one (.int .i64 (Int.ofNat 0)), .one (.bool l0)]] [c_d b1_, c_q b14_] [k_l k7_ (bF 1 []) [.tup [.one (.int .i64 (Int.ofNat 0)), .one (.bool l0)]] []] _ rfl (by kernel_rfl) (by kernel_rfl) (by kernel_rfl) (by kernel_rfl) (by kernel_rfl) (by kernel_rfl), trivial⟩
      have h15_ := (if_neg j5_).symm.trans h4_
      clear h4_
      cases h15_
    · have h2_ := (if_neg b1_).symm.trans h0
      obtain rfl := Option.some.inj h2_
      exact ⟨step_pc 3000 (bF 1 []) [] [c_n b1_] [] _ rfl (by kernel_rfl) (by kernel_rfl) (by kernel_rfl) (by kernel_rfl) (by kernel_rfl) (by kernel_rfl), by kernel_rfl, by kernel_rfl⟩
  | .next 1 ds, t_, h => by
    have h_ : undomR_L4_S1 k c ip pr slot x0 x1 ds = some t_ := h
    clear h
    unfold undomR_L4_S1 at h_
    obtain ⟨s7, e0, h0⟩ := pullD_elim h_
    clear h_
    obtain rfl := tup_inj e0
    by_cases b1_ : s7 < (x0 : Int)
    · have h2_ := (if_pos b1_).symm.trans h0
      obtain ⟨j, ds, e3_, h4_⟩ := bindL_elim h2_
      by_cases j5_ : j = 0
      · have h8_ := (if_pos j5_).symm.trans h4_
        clear h4_
        subst j5_
        obtain ⟨l0, e6_, h9_⟩ := pullD_elim h8_
        clear h8_
        obtain rfl := tup_inj e6_
        have k7_ := undomR_L8_2_in0 k c ip pr slot x0 x1 s7 e3_
        by_cases b10_ : (l0) = true
        · have h11_ := (if_pos b10_).symm.trans h9_
          obtain rfl := Option.some.inj h11_
          exact ⟨step_pc 3000 (bT 2 []) [.tup [.one (.int .i64 (Int.ofNat 0)), .one (.bool l0)]] [c_d b1_, c_q b10_, ⟨fact (0 < 0 + 1 ∧ (0 + 1) * 8 ≤ 140737488355328 ∧ 0 + 1 ≤ 4611686018427387904), true, fact_mk (by decide)⟩] [k_l k7_ (bT 1 []) [.tup [.one (.int .i64 (Int.ofNat 0)), .one (.bool l0)]] []] _ rfl (by kernel_rfl) (by kernel_rfl) (by kernel_rfl) (by kernel_rfl) (by kernel_rfl) (by kernel_rfl), trivial⟩
        · have h11_ := (if_neg b10_).symm.trans h9_
          have b12_ : (l0) = false := by first | exact b10_ | simpa using b10_
          obtain rfl := Option.some.inj h11_
          exact ⟨step_pc 3000 (bT 1 (bF 1 [])) [.tup [.one (.int .i64 (Int.ofNat 0)), .one (.bool l0)]] [c_d b1_, c_q b12_] [k_l k7_ (bF 1 []) [.tup [.one (.int .i64 (Int.ofNat 0)), .one (.bool l0)]] []] _ rfl (by kernel_rfl) (by kernel_rfl) (by kernel_rfl) (by kernel_rfl) (by kernel_rfl) (by kernel_rfl), trivial⟩
      have h13_ := (if_neg j5_).symm.trans h4_
      clear h4_
      cases h13_
    · have h2_ := (if_neg b1_).symm.trans h0
      obtain rfl := Option.some.inj h2_
      exact ⟨step_pc 3000 (bF 1 []) [] [c_n b1_] [] _ rfl (by kernel_rfl) (by kernel_rfl) (by kernel_rfl) (by kernel_rfl) (by kernel_rfl) (by kernel_rfl), by kernel_rfl, by kernel_rfl⟩
  | .next (_ + 2) _, _, h => by cases h
  | .out _ _, _, h => by cases h
theorem undomR_L4_go (k : Nat) (c : List D) (ip pr slot : Int) (x0 : Nat) (x1 : List D) {q : Nat} {ds : List D} {j : Nat} {es : List D} (h : runR (undomR_L4_S k c ip pr slot x0 x1) (.next q ds) = some (.out j es)) : Runs (ctx [37] undomR_sp) Tabs undomR_L4_A (stateOf (undomR_L4_gs k c ip pr slot x0 x1 (.next q ds))) (stateOf (undomR_L4_gs k c ip pr slot x0 x1 (.out j es))) (undomR_L4_ax (.out j es)) ∧ (nxtOf (undomR_L4_gs k c ip pr slot x0 x1 (.out j es)), lowGS (undomR_L4_gs k c ip pr slot x0 x1 (.out j es))) = (undomR_L4_A.nx, undomR_L4_A.low) :=
  runs_of' (good true _ _) undomR_L4_ok (ax := undomR_L4_ax) (fun _ _ => rfl) (fun _ _ => axOf_end _) (undomR_L4_S_ok k c ip pr slot x0 x1) h
theorem undomR_L4_in0 (k : Nat) (c : List D) (ip pr slot : Int) (x0 : Nat) (x1 : List D) {es : List D} (h : runR (undomR_L4_S k c ip pr slot x0 x1) (.next 1 [.one (.tuple #[]), .one (.int .i64 ((0 : Int)))]) = some (.out 0 es)) : LoopC (loopAt Tryd.prog 37 0) (undomR_L4_E k c ip pr slot x0 x1) 3 noFrame undomR_x4_0 es :=
  have r := undomR_L4_go k c ip pr slot x0 x1 h
  loopin_as rfl (loop_in (l := undomR_L4_A) (E := (undomR_L4_E k c ip pr slot x0 x1)) (S := stateOf (undomR_L4_gs k c ip pr slot x0 x1 (.next 1 [.one (.tuple #[]), .one (.int .i64 ((0 : Int)))]))) (ns := nsOf (undomR_L4_gs k c ip pr slot x0 x1 (.next 1 [.one (.tuple #[]), .one (.int .i64 ((0 : Int)))]))) undomR_L4_ok r.1 r.2 (by kernel_rfl) (by kernel_rfl) (by kernel_rfl) (by kernel_rfl))
theorem undomR_L4_in1 (k : Nat) (c : List D) (ip pr slot : Int) (x0 : Nat) (x1 : List D) {es : List D} (h : runR (undomR_L4_S k c ip pr slot x0 x1) (.next 1 [.one (.tuple #[]), .one (.int .i64 ((0 : Int)))]) = some (.out 1 es)) : LoopC (loopAt Tryd.prog 37 0) (undomR_L4_E k c ip pr slot x0 x1) 3 noFrame undomR_x4_1 es :=
  have r := undomR_L4_go k c ip pr slot x0 x1 h
  loopin_as rfl (loop_in (l := undomR_L4_A) (E := (undomR_L4_E k c ip pr slot x0 x1)) (S := stateOf (undomR_L4_gs k c ip pr slot x0 x1 (.next 1 [.one (.tuple #[]), .one (.int .i64 ((0 : Int)))]))) (ns := nsOf (undomR_L4_gs k c ip pr slot x0 x1 (.next 1 [.one (.tuple #[]), .one (.int .i64 ((0 : Int)))]))) undomR_L4_ok r.1 r.2 (by kernel_rfl) (by kernel_rfl) (by kernel_rfl) (by kernel_rfl))
def undomR_M (k : Nat) (c : List D) (ip pr slot : Int) : Option D := guardP ((0 : Int) ≤ slot ∧ slot.toNat < k) (pullD (α := Nat × (List D)) (readD c (slot.toNat * 1) 1 false) (fun d => ((D.ln d), (D.lc d))) (fun (k0, c1) => .list k0 c1) fun (k0, c1) => (bindL (runR (undomR_L4_S k c ip pr slot k0 c1) (.next 1 [.one (.tuple #[]), .one (.int .i64 ((0 : Int)))])) fun j ds => (if j = 0 then pullD (α := Nat × (List D)) (some (.tup ds)) (fun d => ((D.ln (D.at d 0)), (D.lc (D.at d 0)))) (fun (k2, c3) => .tup [.list k2 c3]) fun (k2, c3) => (guardP ((0 + k2) * 1 ≤ c3.length ∧ 0 < 1) (some (.list k2 c3))) else if j = 1 then pullD (some (.tup ds)) (fun _ => ()) (fun _ => .tup [.one (.tuple #[])]) fun _ => (some (.list 0 [])) else none)))
theorem undomR_M_ok (k : Nat) (c : List D) (ip pr slot : Int) {r : D} (h : undomR_M k c ip pr slot = some r) : Con 37 [.agg [.list k c, .one (.int .i64 ip), .one (.int .i64 pr)], .one (.int .i64 slot)] r := by
  unfold undomR_M at h
  obtain ⟨f1_, h2_⟩ := guardP_elim h
  obtain ⟨⟨k0, c1⟩, f3_, h4_⟩ := pullD_elim h2_
  replace f3_ := readD_elim f3_
  obtain ⟨j, ds, e5_, h6_⟩ := bindL_elim h4_
  by_cases j7_ : j = 0
  · have h10_ := (if_pos j7_).symm.trans h6_
    clear h6_
    subst j7_
    obtain ⟨⟨k2, c3⟩, e8_, h11_⟩ := pullD_elim h10_
    clear h10_
    obtain rfl := tup_inj e8_
    have k9_ := undomR_L4_in0 k c ip pr slot k0 c1 e5_
    obtain ⟨f12_, h13_⟩ := guardP_elim h11_
    obtain rfl := Option.some.inj h13_
    exact con_pc (op := true) (I := [37]) (sp := undomR_sp) 3000 [] [.list k0 c1, .tup [.one (.int .i64 (Int.ofNat 0)), .list k2 c3]] [c_f f1_, c_f f3_, c_f f12_] [k_l k9_ [] [.tup [.one (.int .i64 (Int.ofNat 0)), .list k2 c3]] []] (by kernel_rfl)
  have h14_ := (if_neg j7_).symm.trans h6_
  clear h6_
  by_cases j15_ : j = 1
  · have h18_ := (if_pos j15_).symm.trans h14_
    clear h14_
    subst j15_
    obtain ⟨⟨⟩, e16_, h19_⟩ := pullD_elim h18_
    clear h18_
    obtain rfl := tup_inj e16_
    have k17_ := undomR_L4_in1 k c ip pr slot k0 c1 e5_
    obtain rfl := Option.some.inj h19_
    exact con_pc (op := true) (I := [37]) (sp := undomR_sp) 3000 [] [.list k0 c1, .tup [.one (.int .i64 (Int.ofNat 1)), .one (.tuple #[])]] [c_f f1_, c_f f3_] [k_l k17_ [] [.tup [.one (.int .i64 (Int.ofNat 1)), .one (.tuple #[])]] []] (by kernel_rfl)
  have h20_ := (if_neg j15_).symm.trans h14_
  clear h14_
  cases h20_
def m_37 (ds : List D) : Option D := pullD (α := Nat × (List D) × Int × Int × Int) (some (.tup ds)) (fun d => ((D.ln (D.at (D.at d 0) 0)), (D.lc (D.at (D.at d 0) 0)), (D.vi (D.at (D.at d 0) 1)), (D.vi (D.at (D.at d 0) 2)), (D.vi (D.at d 1)))) (fun (k, c, ip, pr, slot) => .tup [.agg [.list k c, .one (.int .i64 ip), .one (.int .i64 pr)], .one (.int .i64 slot)]) fun (k, c, ip, pr, slot) => undomR_M k c ip pr slot
theorem m_37_ok {ds : List D} {r : D} (h : m_37 ds = some r) : Con 37 ds r := by
  unfold m_37 at h
  obtain ⟨⟨k, c, ip, pr, slot⟩, e0, h0⟩ := pullD_elim h
  obtain rfl := tup_inj e0
  exact undomR_M_ok k c ip pr slot h0
theorem m_37_eq (k : Nat) (c : List D) (ip pr slot : Int) : m_37 [.agg [.list k c, .one (.int .i64 ip), .one (.int .i64 pr)], .one (.int .i64 slot)] = undomR_M k c ip pr slot := pullD_some (k, c, ip, pr, slot) rfl rfl
end
end Go.Proofs.YtegjgcogikjemaaDoor
/- Stocks: which part is as good as another one; which parts are not dominated. -/
namespace Go.Proofs.YtegjgcogikjemaaDoor
open Go.Ev Go.RowKit
set_option maxRecDepth 100000
theorem read1 {xs : List Int} {i : Nat} {v : Int} (h : xs[i]? = some v) : readD (xs.map ID) ((i : Int).toNat * 1) 1 false = some (.one (.int .i64 v)) := readD_of (reads1 h)
theorem read14 {ps : List Part} {i : Nat} {q : Part} (h : ps[i]? = some q) : readD (slotC ps) ((i : Int).toNat * 14) 14 true = some (.agg q.cells) := readD_of (reads14 h)
theorem readS {ss : List (List Part)} {i : Nat} {ps : List Part} (h : ss[i]? = some ps) : readD (ss.map slotD) ((i : Int).toNat * 1) 1 false = some (.list ps.length (slotC ps)) := readD_of (readsS h)
/-- Equal lists are told to be so. -/
theorem ints_refl (xs : List Int) (hl : xs.length ≤ 4611686018427387904) : m_36 [.list xs.length (xs.map ID), .list xs.length (xs.map ID)] = some (.one (.bool true)) := by
  rw [m_36_eq]
  unfold ints_M
  rw [if_neg (by simp)]
  have h : runR (ints_L4_S xs.length (xs.map ID) xs.length (xs.map ID)) (.next 0 [.one (.int .i64 0)]) = some (.out 0 []) := by
    refine (runR_scan (fun _ => 0) (fun i => [.one (.int .i64 (i : Int))]) (Nat.zero_le xs.length) (fun i _ hi => by
      show ints_L4_S0 _ _ _ _ _ = _
      unfold ints_L4_S0
      rw [pullD_some (i : Int) (by rfl) (by rfl), if_pos (by omega), guardP_pos (by omega), pullD_some xs[i] (read1 (List.getElem?_eq_getElem hi)) (by rfl), guardP_pos (by omega), pullD_some xs[i] (read1 (List.getElem?_eq_getElem hi)) (by rfl), if_neg (by simp), wrap_succ hi hl])).trans ?_
    exact runR_exit (by
      show ints_L4_S0 _ _ _ _ _ = _
      unfold ints_L4_S0
      rw [pullD_some (xs.length : Int) (by rfl) (by rfl), if_neg (by omega)])
  rw [bindL_some h, if_pos rfl, pullD_some () (by rfl) (by rfl)]
/-- A part is at least as good as another one. -/
def domV (p q : Part) : Bool := decide (p.p ≤ q.p ∧ p.a0 ≤ q.a0 ∧ p.a1 ≤ q.a1 ∧ p.a2 ≤ q.a2 ∧ p.a3 ≤ q.a3 ∧ p.a4 ≤ q.a4 ∧ p.a5 ≤ q.a5 ∧ p.a6 ≤ q.a6 ∧ p.a7 ≤ q.a7 ∧ p.a8 = q.a8 ∧ p.a9 = q.a9 ∧ p.a10 = q.a10 ∧ p.a11 = q.a11)
theorem dom_eq (p q : Part) : m_97 [.agg p.cells, .agg q.cells] = some (.one (.bool (domV p q))) := by
  unfold Part.cells
  rw [m_97_eq]
  unfold domR_M domV
  repeat' split
  all_goals
    simp only [Option.some.injEq, D.one.injEq, Value.bool.injEq]
    first
    | (rw [eq_comm, decide_eq_false_iff_not]; (try simp only [Bool.not_eq_true', Bool.and_true, Bool.and_eq_false_iff, beq_eq_false_iff_ne, ne_eq] at *); omega)
    | (rw [eq_comm, decide_eq_true_eq]; (try simp only [Bool.not_eq_true', Bool.and_true, Bool.and_eq_false_iff, beq_eq_false_iff_ne, ne_eq, not_or, Decidable.not_not] at *); omega)
theorem cov_eq (p q : Part) : m_152 [.agg p.cells, .agg q.cells] = some (.one (.bool (domV p q))) := by
  unfold Part.cells
  rw [m_152_eq]
  unfold covers_M
  generalize hS : covers_L2_S p.n p.p p.a0 p.a1 p.a2 p.a3 p.a4 p.a5 p.a6 p.a7 p.a8 p.a9 p.a10 p.a11 q.n q.p q.a0 q.a1 q.a2 q.a3 q.a4 q.a5 q.a6 q.a7 q.a8 q.a9 q.a10 q.a11 = S
  have st : ∀ i : Int, S (.next 0 [.one (.int .i64 i)]) = covers_L2_S0 p.n p.p p.a0 p.a1 p.a2 p.a3 p.a4 p.a5 p.a6 p.a7 p.a8 p.a9 p.a10 p.a11 q.n q.p q.a0 q.a1 q.a2 q.a3 q.a4 q.a5 q.a6 q.a7 q.a8 q.a9 q.a10 q.a11 [.one (.int .i64 i)] := fun i => by rw [← hS]; rfl
  have e : ∀ (i : Int) (c : Bool) (t : Int), S (.next 0 [.one (.int .i64 i)]) = some (if c = true then .next 0 [.one (.int .i64 t)] else .out 1 [.one (.bool false)]) → runR S (.next 0 [.one (.int .i64 i)]) = if c = true then runR S (.next 0 [.one (.int .i64 t)]) else some (.out 1 [.one (.bool false)]) := fun i c t h => by
    cases c
    · rw [if_neg (by simp)] at h ⊢; exact runR_exit h
    · rw [if_pos rfl] at h ⊢; exact runR_next h
  have s0 := e 0 (decide (p.a0 ≤ q.a0 ∧ p.a1 ≤ q.a1)) 1 (by
    rw [st]; unfold covers_L2_S0; rw [pullD_some (0 : Int) (by rfl) (by rfl), if_pos rfl]
    simp only [Bool.not_eq_true', Bool.and_true, Bool.and_eq_false_iff, beq_eq_false_iff_ne, ne_eq, decide_eq_false_iff_not, decide_eq_true_eq]
    repeat' split
    all_goals first | rfl | (exfalso; omega))
  have s1 := e 1 (decide (p.a2 ≤ q.a2 ∧ p.a3 ≤ q.a3)) 2 (by
    rw [st]; unfold covers_L2_S0; rw [pullD_some (1 : Int) (by rfl) (by rfl), if_neg (by decide), if_pos rfl]
    simp only [Bool.not_eq_true', Bool.and_true, Bool.and_eq_false_iff, beq_eq_false_iff_ne, ne_eq, decide_eq_false_iff_not, decide_eq_true_eq]
    repeat' split
    all_goals first | rfl | (exfalso; omega))
  have s2 := e 2 (decide (p.a4 ≤ q.a4 ∧ p.a5 ≤ q.a5)) 3 (by
    rw [st]; unfold covers_L2_S0; rw [pullD_some (2 : Int) (by rfl) (by rfl), if_neg (by decide), if_neg (by decide), if_pos rfl]
    simp only [Bool.not_eq_true', Bool.and_true, Bool.and_eq_false_iff, beq_eq_false_iff_ne, ne_eq, decide_eq_false_iff_not, decide_eq_true_eq]
    repeat' split
    all_goals first | rfl | (exfalso; omega))
  have s3 := e 3 (decide (p.a6 ≤ q.a6 ∧ p.a7 ≤ q.a7)) 4 (by
    rw [st]; unfold covers_L2_S0; rw [pullD_some (3 : Int) (by rfl) (by rfl), if_neg (by decide), if_neg (by decide), if_neg (by decide), if_pos rfl]
    simp only [Bool.not_eq_true', Bool.and_true, Bool.and_eq_false_iff, beq_eq_false_iff_ne, ne_eq, decide_eq_false_iff_not, decide_eq_true_eq]
    repeat' split
    all_goals first | rfl | (exfalso; omega))
  have s4 := e 4 (decide (p.a8 = q.a8 ∧ p.a9 = q.a9)) 5 (by
    rw [st]; unfold covers_L2_S0; rw [pullD_some (4 : Int) (by rfl) (by rfl), if_neg (by decide), if_neg (by decide), if_neg (by decide), if_neg (by decide), if_pos rfl]
    simp only [Bool.not_eq_true', Bool.and_true, Bool.and_eq_false_iff, beq_eq_false_iff_ne, ne_eq, decide_eq_false_iff_not, decide_eq_true_eq]
    repeat' split
    all_goals first | rfl | (exfalso; omega))
  have s5 := e 5 (decide (p.a10 = q.a10 ∧ p.a11 = q.a11)) 6 (by
    rw [st]; unfold covers_L2_S0; rw [pullD_some (5 : Int) (by rfl) (by rfl), if_neg (by decide), if_neg (by decide), if_neg (by decide), if_neg (by decide), if_neg (by decide), if_pos rfl]
    simp only [Bool.not_eq_true', Bool.and_true, Bool.and_eq_false_iff, beq_eq_false_iff_ne, ne_eq, decide_eq_false_iff_not, decide_eq_true_eq]
    repeat' split
    all_goals first | rfl | (exfalso; omega))
  have s6 : runR S (.next 0 [.one (.int .i64 6)]) = some (.out 0 []) := runR_exit (by
    rw [st]; unfold covers_L2_S0; rw [pullD_some (6 : Int) (by rfl) (by rfl)]; rfl)
  rw [s0, s1, s2, s3, s4, s5, s6]
  simp only [decide_eq_true_eq]
  unfold domV
  repeat' split
  all_goals first
    | (rw [bindL_some rfl, if_neg (by decide), if_pos rfl, pullD_some false (by rfl) (by rfl)]
       simp only [Option.some.injEq, D.one.injEq, Value.bool.injEq]
       rw [eq_comm, decide_eq_false_iff_not]; omega)
    | (rw [bindL_some rfl, if_pos rfl, pullD_some () (by rfl) (by rfl)]
       simp only [Option.some.injEq, D.one.injEq, Value.bool.injEq]
       rw [decide_eq_decide]; omega)
end Go.Proofs.YtegjgcogikjemaaDoor
/- Stocks: rounds over parts. -/
namespace Go.Proofs.YtegjgcogikjemaaDoor
open Go.Ev Go.RowKit
set_option maxRecDepth 100000
theorem read14l {ps : List Part} {i : Nat} {q : Part} (h : ps[i]? = some q) : readD (slotC ps) ((i : Int).toNat * 14) 14 true = some (.agg [.one (.string q.n), .one (.int .i64 q.p), .one (.int .i64 q.a0), .one (.int .i64 q.a1), .one (.int .i64 q.a2), .one (.int .i64 q.a3), .one (.int .i64 q.a4), .one (.int .i64 q.a5), .one (.int .i64 q.a6), .one (.int .i64 q.a7), .one (.int .i64 q.a8), .one (.int .i64 q.a9), .one (.int .i64 q.a10), .one (.int .i64 q.a11)]) := read14 h
theorem cov_l (p q : Part) : m_152 [.agg [.one (.string p.n), .one (.int .i64 p.p), .one (.int .i64 p.a0), .one (.int .i64 p.a1), .one (.int .i64 p.a2), .one (.int .i64 p.a3), .one (.int .i64 p.a4), .one (.int .i64 p.a5), .one (.int .i64 p.a6), .one (.int .i64 p.a7), .one (.int .i64 p.a8), .one (.int .i64 p.a9), .one (.int .i64 p.a10), .one (.int .i64 p.a11)], .agg [.one (.string q.n), .one (.int .i64 q.p), .one (.int .i64 q.a0), .one (.int .i64 q.a1), .one (.int .i64 q.a2), .one (.int .i64 q.a3), .one (.int .i64 q.a4), .one (.int .i64 q.a5), .one (.int .i64 q.a6), .one (.int .i64 q.a7), .one (.int .i64 q.a8), .one (.int .i64 q.a9), .one (.int .i64 q.a10), .one (.int .i64 q.a11)]] = some (.one (.bool (domV p q))) := cov_eq p q
theorem dom_l (p q : Part) : m_97 [.agg [.one (.string p.n), .one (.int .i64 p.p), .one (.int .i64 p.a0), .one (.int .i64 p.a1), .one (.int .i64 p.a2), .one (.int .i64 p.a3), .one (.int .i64 p.a4), .one (.int .i64 p.a5), .one (.int .i64 p.a6), .one (.int .i64 p.a7), .one (.int .i64 p.a8), .one (.int .i64 p.a9), .one (.int .i64 p.a10), .one (.int .i64 p.a11)], .agg [.one (.string q.n), .one (.int .i64 q.p), .one (.int .i64 q.a0), .one (.int .i64 q.a1), .one (.int .i64 q.a2), .one (.int .i64 q.a3), .one (.int .i64 q.a4), .one (.int .i64 q.a5), .one (.int .i64 q.a6), .one (.int .i64 q.a7), .one (.int .i64 q.a8), .one (.int .i64 q.a9), .one (.int .i64 q.a10), .one (.int .i64 q.a11)]] = some (.one (.bool (domV p q))) := dom_eq p q
/-- The part j (r) makes the part i (q) needless. -/
def betterV (i j : Nat) (q r : Part) : Bool := (j != i) && (domV r q && (decide (j < i) || !domV q r))
theorem domV_refl (q : Part) : domV q q = true := by simp [domV]
theorem isDom_round (ps : List Part) (i j : Nat) (q r : Part) (hi : ps[i]? = some q) (hj : ps[j]? = some r) (hl : ps.length ≤ 1000000) :
    isDom_L2_S0 ps.length (slotC ps) (i : Int) [.one (.int .i64 (j : Int))] = some (if betterV i j q r = true then .out 1 [.one (.bool true)] else .next 0 [.one (.int .i64 ((j + 1 : Nat) : Int))]) := by
  have hil := (List.getElem?_eq_some_iff.1 hi).1
  have hjl := (List.getElem?_eq_some_iff.1 hj).1
  unfold isDom_L2_S0 betterV
  rw [pullD_some (j : Int) (by rfl) (by rfl), if_pos (by omega), guardP_pos (by omega), pullD_some (r.n, r.p, r.a0, r.a1, r.a2, r.a3, r.a4, r.a5, r.a6, r.a7, r.a8, r.a9, r.a10, r.a11) (read14l hj) (by rfl)]
  dsimp only
  rw [guardP_pos (by omega), pullD_some (q.n, q.p, q.a0, q.a1, q.a2, q.a3, q.a4, q.a5, q.a6, q.a7, q.a8, q.a9, q.a10, q.a11) (read14l hi) (by rfl)]
  dsimp only
  rw [pullD_some (domV r q) (cov_l r q) (by rfl), wrap_succ hjl (by omega)]
  by_cases hne : j = i
  · subst hne
    have : q = r := Option.some.inj (hi.symm.trans hj)
    subst this
    rw [domV_refl, if_pos rfl, if_neg (by omega), pullD_some (q.n, q.p, q.a0, q.a1, q.a2, q.a3, q.a4, q.a5, q.a6, q.a7, q.a8, q.a9, q.a10, q.a11) (read14l hi) (by rfl)]
    dsimp only
    rw [pullD_some (q.n, q.p, q.a0, q.a1, q.a2, q.a3, q.a4, q.a5, q.a6, q.a7, q.a8, q.a9, q.a10, q.a11) (read14l hi) (by rfl)]
    dsimp only
    rw [pullD_some (domV q q) (cov_l q q) (by rfl), domV_refl]
    simp
  have hne' : (j != i) = true := by simpa using hne
  cases h1 : domV r q with
  | false => simp [hne']
  | true =>
    rw [if_pos rfl]
    by_cases h2 : (j : Int) < (i : Int)
    · rw [if_pos h2]
      have : j < i := by omega
      simp [hne', this]
    · rw [if_neg h2, pullD_some (q.n, q.p, q.a0, q.a1, q.a2, q.a3, q.a4, q.a5, q.a6, q.a7, q.a8, q.a9, q.a10, q.a11) (read14l hi) (by rfl)]
      dsimp only
      rw [pullD_some (r.n, r.p, r.a0, r.a1, r.a2, r.a3, r.a4, r.a5, r.a6, r.a7, r.a8, r.a9, r.a10, r.a11) (read14l hj) (by rfl)]
      dsimp only
      rw [pullD_some (domV q r) (cov_l q r) (by rfl)]
      have : ¬ j < i := by omega
      cases h3 : domV q r <;> simp [hne', this]
theorem undomR_L8_round (k : Nat) (c : List D) (ip pr slot : Int) (x2 : Nat) (x3 : List D) (ps : List Part) (i j : Nat) (q r : Part) (b : Bool) (hi : ps[i]? = some q) (hj : ps[j]? = some r) (hl : ps.length ≤ 1000000) :
    undomR_L8_S0 k c ip pr slot ps.length (slotC ps) x2 x3 (i : Int) [.one (.bool b), .one (.int .i64 (j : Int))] = some (.next 0 [.one (.bool (b && !betterV i j q r)), .one (.int .i64 ((j + 1 : Nat) : Int))]) := by
  have hil := (List.getElem?_eq_some_iff.1 hi).1
  have hjl := (List.getElem?_eq_some_iff.1 hj).1
  unfold undomR_L8_S0 betterV
  rw [pullD_some (b, (j : Int)) (by rfl) (by rfl)]
  dsimp only
  rw [if_pos (by omega), wrap_succ hjl (by omega)]
  by_cases hne : (j : Int) = (i : Int)
  · rw [if_neg (by simpa using hne)]
    have : j = i := by omega
    subst this
    simp
  rw [if_pos hne, guardP_pos (by omega), pullD_some (r.n, r.p, r.a0, r.a1, r.a2, r.a3, r.a4, r.a5, r.a6, r.a7, r.a8, r.a9, r.a10, r.a11) (read14l hj) (by rfl)]
  dsimp only
  rw [guardP_pos (by omega), pullD_some (q.n, q.p, q.a0, q.a1, q.a2, q.a3, q.a4, q.a5, q.a6, q.a7, q.a8, q.a9, q.a10, q.a11) (read14l hi) (by rfl)]
  dsimp only
  rw [pullD_some (domV r q) (dom_l r q) (by rfl)]
  have hne' : (j != i) = true := by simp; omega
  cases h1 : domV r q with
  | false => simp [hne']
  | true =>
    rw [if_pos rfl]
    by_cases h2 : (j : Int) < (i : Int)
    · rw [if_pos h2]
      have : j < i := by omega
      simp [hne', this]
    · rw [if_neg h2, pullD_some (q.n, q.p, q.a0, q.a1, q.a2, q.a3, q.a4, q.a5, q.a6, q.a7, q.a8, q.a9, q.a10, q.a11) (read14l hi) (by rfl)]
      dsimp only
      rw [pullD_some (r.n, r.p, r.a0, r.a1, r.a2, r.a3, r.a4, r.a5, r.a6, r.a7, r.a8, r.a9, r.a10, r.a11) (read14l hj) (by rfl)]
      dsimp only
      rw [pullD_some (domV q r) (dom_l q r) (by rfl)]
      have : ¬ j < i := by omega
      cases h3 : domV q r <;> simp [hne', this]
theorem undomR_L8_2_round (k : Nat) (c : List D) (ip pr slot : Int) (ps : List Part) (i j : Nat) (q r : Part) (b : Bool) (hi : ps[i]? = some q) (hj : ps[j]? = some r) (hl : ps.length ≤ 1000000) :
    undomR_L8_2_S0 k c ip pr slot ps.length (slotC ps) (i : Int) [.one (.bool b), .one (.int .i64 (j : Int))] = some (.next 0 [.one (.bool (b && !betterV i j q r)), .one (.int .i64 ((j + 1 : Nat) : Int))]) := by
  have hil := (List.getElem?_eq_some_iff.1 hi).1
  have hjl := (List.getElem?_eq_some_iff.1 hj).1
  unfold undomR_L8_2_S0 betterV
  rw [pullD_some (b, (j : Int)) (by rfl) (by rfl)]
  dsimp only
  rw [if_pos (by omega), wrap_succ hjl (by omega)]
  by_cases hne : (j : Int) = (i : Int)
  · rw [if_neg (by simpa using hne)]
    have : j = i := by omega
    subst this
    simp
  rw [if_pos hne, guardP_pos (by omega), pullD_some (r.n, r.p, r.a0, r.a1, r.a2, r.a3, r.a4, r.a5, r.a6, r.a7, r.a8, r.a9, r.a10, r.a11) (read14l hj) (by rfl)]
  dsimp only
  rw [guardP_pos (by omega), pullD_some (q.n, q.p, q.a0, q.a1, q.a2, q.a3, q.a4, q.a5, q.a6, q.a7, q.a8, q.a9, q.a10, q.a11) (read14l hi) (by rfl)]
  dsimp only
  rw [pullD_some (domV r q) (dom_l r q) (by rfl)]
  have hne' : (j != i) = true := by simp; omega
  cases h1 : domV r q with
  | false => simp [hne']
  | true =>
    rw [if_pos rfl]
    by_cases h2 : (j : Int) < (i : Int)
    · rw [if_pos h2]
      have : j < i := by omega
      simp [hne', this]
    · rw [if_neg h2, pullD_some (q.n, q.p, q.a0, q.a1, q.a2, q.a3, q.a4, q.a5, q.a6, q.a7, q.a8, q.a9, q.a10, q.a11) (read14l hi) (by rfl)]
      dsimp only
      rw [pullD_some (r.n, r.p, r.a0, r.a1, r.a2, r.a3, r.a4, r.a5, r.a6, r.a7, r.a8, r.a9, r.a10, r.a11) (read14l hj) (by rfl)]
      dsimp only
      rw [pullD_some (domV q r) (dom_l q r) (by rfl)]
      have : ¬ j < i := by omega
      cases h3 : domV q r <;> simp [hne', this]
end Go.Proofs.YtegjgcogikjemaaDoor
/- Stocks: the parts that are not dominated. -/
namespace Go.Proofs.YtegjgcogikjemaaDoor
open Go.Ev Go.RowKit
set_option maxRecDepth 100000
def bAt (ps : List Part) (i j : Nat) : Bool := match ps[i]?, ps[j]? with
  | some q, some r => betterV i j q r
  | _, _ => false
theorem bAt_eq (ps : List Part) (i j : Nat) (hi : i < ps.length) (hj : j < ps.length) : bAt ps i j = betterV i j ps[i] ps[j] := by
  unfold bAt
  rw [List.getElem?_eq_getElem hi, List.getElem?_eq_getElem hj]
/-- Some part makes the part i needless. -/
def domd (ps : List Part) (i : Nat) : Bool := (List.range ps.length).any (bAt ps i)
/-- The first of them, below i, that are not dominated. -/
def freeTo (ps : List Part) (i : Nat) : List Nat := (List.range i).filter fun i => !domd ps i
def IDn (n : Nat) : D := .one (.int .i64 (n : Int))
theorem freeTo_succ (ps : List Part) (i : Nat) : freeTo ps (i + 1) = if domd ps i = true then freeTo ps i else freeTo ps i ++ [i] := by
  unfold freeTo
  rw [List.range_succ, List.filter_append]
  cases h : domd ps i <;> simp [h]
theorem freeTo_len (ps : List Part) (i : Nat) : (freeTo ps i).length ≤ i := by
  unfold freeTo
  exact Nat.le_trans (List.length_filter_le _ _) (by simp)
theorem isDom_run (ps : List Part) (i : Nat) (hi : i < ps.length) (hl : ps.length ≤ 1000000) : m_95 [.list ps.length (slotC ps), .one (.int .i64 (i : Int))] = some (.one (.bool (domd ps i))) := by
  rw [m_95_eq]
  unfold isDom_M
  have step : ∀ j, j < ps.length → isDom_L2_S ps.length (slotC ps) (i : Int) (.next 0 [.one (.int .i64 (j : Int))]) = some (if bAt ps i j = true then .out 1 [.one (.bool true)] else .next 0 [.one (.int .i64 ((j + 1 : Nat) : Int))]) := fun j hj => by
    rw [bAt_eq ps i j hi hj]
    exact isDom_round ps i j ps[i] ps[j] (List.getElem?_eq_getElem hi) (List.getElem?_eq_getElem hj) hl
  rcases first_of (bAt ps i) (List.range ps.length) with h | ⟨j, v, h1, h2, h3⟩
  · have e : domd ps i = false := by
      unfold domd
      rw [List.any_eq_false]
      exact fun x hx => by simpa using h x hx
    have hr : runR (isDom_L2_S ps.length (slotC ps) (i : Int)) (.next 0 [.one (.int .i64 0)]) = some (.out 0 []) := by
      refine (runR_scan (fun _ => 0) (fun j => [.one (.int .i64 (j : Int))]) (Nat.zero_le ps.length) (fun j _ hj => ?_)).trans (runR_exit ?_)
      · rw [step j hj, h j (List.mem_range.2 hj)]; rfl
      · rw [isDom_L2_S_0]
        unfold isDom_L2_S0
        rw [pullD_some (ps.length : Int) (by rfl) (by rfl), if_neg (by omega)]
    rw [bindL_some hr, if_pos rfl, pullD_some () (by rfl) (by rfl), e]
  · have hj : j < ps.length := by have := (List.getElem?_eq_some_iff.1 h1).1; simpa using this
    have hv : v = j := by rw [List.getElem?_range hj] at h1; simpa using h1.symm
    subst hv
    have e : domd ps i = true := by
      unfold domd
      rw [List.any_eq_true]
      exact ⟨v, List.mem_range.2 hj, h2⟩
    have hr : runR (isDom_L2_S ps.length (slotC ps) (i : Int)) (.next 0 [.one (.int .i64 0)]) = some (.out 1 [.one (.bool true)]) := by
      refine (runR_scan (fun _ => 0) (fun j => [.one (.int .i64 (j : Int))]) (Nat.zero_le v) (fun l _ hlv => ?_)).trans (runR_exit ?_)
      · rw [step l (by omega), h3 l l hlv (List.getElem?_range (by omega))]; rfl
      · rw [step v hj, h2]; rfl
    rw [bindL_some hr, if_neg (by decide), if_pos rfl, pullD_some true (by rfl) (by rfl), e]
theorem undomR_L8_run (k : Nat) (c : List D) (ip pr slot : Int) (x2 : Nat) (x3 : List D) (ps : List Part) (i : Nat) (hi : i < ps.length) (hl : ps.length ≤ 1000000) :
    runR (undomR_L8_S k c ip pr slot ps.length (slotC ps) x2 x3 (i : Int)) (.next 0 [.one (.bool true), .one (.int .i64 0)]) = some (.out 0 [.one (.bool (!domd ps i))]) := by
  refine (runR_scan (fun _ => 0) (fun j => [.one (.bool (!(List.range j).any (bAt ps i))), .one (.int .i64 (j : Int))]) (Nat.zero_le ps.length) (fun j _ hj => ?_)).trans (runR_exit ?_)
  · rw [undomR_L8_S_0]
    rw [undomR_L8_round k c ip pr slot x2 x3 ps i j ps[i] ps[j] _ (List.getElem?_eq_getElem hi) (List.getElem?_eq_getElem hj) hl, List.range_succ, List.any_append, List.any_cons, List.any_nil, Bool.or_false, Bool.not_or, bAt_eq ps i j hi hj]
  · rw [undomR_L8_S_0]
    unfold undomR_L8_S0
    rw [pullD_some (!(List.range ps.length).any (bAt ps i), (ps.length : Int)) (by rfl) (by rfl)]
    dsimp only
    rw [if_neg (by omega)]
    rfl
theorem undomR_L8_2_run (k : Nat) (c : List D) (ip pr slot : Int) (ps : List Part) (i : Nat) (hi : i < ps.length) (hl : ps.length ≤ 1000000) :
    runR (undomR_L8_2_S k c ip pr slot ps.length (slotC ps) (i : Int)) (.next 0 [.one (.bool true), .one (.int .i64 0)]) = some (.out 0 [.one (.bool (!domd ps i))]) := by
  refine (runR_scan (fun _ => 0) (fun j => [.one (.bool (!(List.range j).any (bAt ps i))), .one (.int .i64 (j : Int))]) (Nat.zero_le ps.length) (fun j _ hj => ?_)).trans (runR_exit ?_)
  · rw [undomR_L8_2_S_0]
    rw [undomR_L8_2_round k c ip pr slot ps i j ps[i] ps[j] _ (List.getElem?_eq_getElem hi) (List.getElem?_eq_getElem hj) hl, List.range_succ, List.any_append, List.any_cons, List.any_nil, Bool.or_false, Bool.not_or, bAt_eq ps i j hi hj]
  · rw [undomR_L8_2_S_0]
    unfold undomR_L8_2_S0
    rw [pullD_some (!(List.range ps.length).any (bAt ps i), (ps.length : Int)) (by rfl) (by rfl)]
    dsimp only
    rw [if_neg (by omega)]
    rfl
/-- The loops' state before the part i. -/
def uQ (ps : List Part) (i : Nat) : Nat := if freeTo ps i = [] then 1 else 0
def uD (ps : List Part) (i : Nat) : List D := if freeTo ps i = [] then [.one (.tuple #[]), IDn i] else [.list (freeTo ps i).length ((freeTo ps i).map IDn), IDn i]
theorem uSt (ps : List Part) (i : Nat) (X : Go.Ev.Rd) (h : X = if domd ps i = true then (if freeTo ps i = [] then .next 1 [.one (.tuple #[]), IDn (i + 1)] else .next 0 [.list (freeTo ps i).length ((freeTo ps i).map IDn), IDn (i + 1)])
    else .next 0 [.list ((freeTo ps i).length + 1) ((freeTo ps i).map IDn ++ [IDn i]), IDn (i + 1)]) : X = .next (uQ ps (i + 1)) (uD ps (i + 1)) := by
  rw [h]
  unfold uQ uD
  rw [freeTo_succ]
  cases domd ps i with
  | true => rw [if_pos rfl, if_pos rfl]; split <;> rfl
  | false =>
    rw [if_neg (by simp), if_neg (by simp), if_neg (by simp), if_neg (by simp)]
    simp
theorem undom_step (ss : List (List Part)) (ip pr : Int) (s : Nat) (ps : List Part) (hs : ss[s]? = some ps) (x0 x1 : Int) (i : Nat) (hi : i < ps.length) (hl : ps.length ≤ 1000000) (hz : ss.length ≤ 1000000) :
    undom_L8_S ss.length (ss.map slotD) ip pr (s : Int) x0 x1 ps.length (slotC ps) (.next (uQ ps i) (uD ps i)) = some (.next (uQ ps (i + 1)) (uD ps (i + 1))) := by
  have hsl := (List.getElem?_eq_some_iff.1 hs).1
  have hf := freeTo_len ps i
  rw [← uSt ps i _ rfl]
  by_cases h0 : freeTo ps i = []
  · rw [show uQ ps i = 1 from if_pos h0, show uD ps i = _ from if_pos h0]
    rw [undom_L8_S_1]
    unfold undom_L8_S1
    rw [pullD_some (i : Int) (by rfl) (by rfl), if_pos (by omega), guardP_pos (by omega), pullD_some (ps.length, slotC ps) (readS hs) (by rfl)]
    dsimp only
    rw [pullD_some (domd ps i) (isDom_run ps i hi hl) (by rfl), wrap_succ hi (by omega), h0]
    cases domd ps i <;> rfl
  · rw [show uQ ps i = 0 from if_neg h0, show uD ps i = _ from if_neg h0]
    rw [undom_L8_S_0]
    unfold undom_L8_S0
    rw [pullD_some ((freeTo ps i).length, (freeTo ps i).map IDn, (i : Int)) (by rfl) (by rfl)]
    dsimp only
    rw [if_pos (by omega), guardP_pos (by omega), pullD_some (ps.length, slotC ps) (readS hs) (by rfl)]
    dsimp only
    rw [pullD_some (domd ps i) (isDom_run ps i hi hl) (by rfl), wrap_succ hi (by omega), if_neg h0]
    cases hd : domd ps i with
    | true => rw [if_neg (by simp), if_pos rfl]; rfl
    | false =>
      rw [if_pos rfl, if_neg (by simp), guardP_pos ⟨fun u hu => by rw [List.mem_singleton] at hu; subst hu; trivial, by simp, by omega, by omega⟩]
      rw [List.take_of_length_le (by simp)]
      rfl
theorem undomR_step (ss : List (List Part)) (ip pr : Int) (s : Nat) (ps : List Part) (i : Nat) (hi : i < ps.length) (hl : ps.length ≤ 1000000) :
    undomR_L4_S ss.length (ss.map slotD) ip pr (s : Int) ps.length (slotC ps) (.next (uQ ps i) (uD ps i)) = some (.next (uQ ps (i + 1)) (uD ps (i + 1))) := by
  have hf := freeTo_len ps i
  rw [← uSt ps i _ rfl]
  by_cases h0 : freeTo ps i = []
  · rw [show uQ ps i = 1 from if_pos h0, show uD ps i = _ from if_pos h0]
    rw [undomR_L4_S_1]
    unfold undomR_L4_S1
    rw [pullD_some (i : Int) (by rfl) (by rfl), if_pos (by omega), bindL_some (undomR_L8_2_run _ _ _ _ _ ps i hi hl), if_pos rfl, pullD_some (!domd ps i) (by rfl) (by rfl), wrap_succ hi (by omega), h0]
    cases domd ps i <;> rfl
  · rw [show uQ ps i = 0 from if_neg h0, show uD ps i = _ from if_neg h0]
    rw [undomR_L4_S_0]
    unfold undomR_L4_S0
    rw [pullD_some ((freeTo ps i).length, (freeTo ps i).map IDn, (i : Int)) (by rfl) (by rfl)]
    dsimp only
    rw [if_pos (by omega), bindL_some (undomR_L8_run _ _ _ _ _ _ _ ps i hi hl), if_pos rfl, pullD_some (!domd ps i) (by rfl) (by rfl), wrap_succ hi (by omega), if_neg h0]
    cases hd : domd ps i with
    | true => rw [if_neg (by simp), if_pos rfl]; rfl
    | false =>
      rw [if_pos (by simp), if_neg (by simp), guardP_pos ⟨fun u hu => by rw [List.mem_singleton] at hu; subst hu; trivial, by simp, by omega, by omega⟩]
      rw [List.take_of_length_le (by simp)]
      rfl
theorem uStart (ps : List Part) : Go.Ev.Rd.next 1 [.one (.tuple #[]), .one (.int .i64 0)] = .next (uQ ps 0) (uD ps 0) := rfl
/-- The parts that no other one dominates, by the program. -/
theorem undom_ok (ss : List (List Part)) (ip pr : Int) (s : Nat) (ps : List Part) (hs : ss[s]? = some ps) (hsm : Stk.small ⟨ss, ip, pr⟩) (he : stockE ss ip pr = (0, 0)) :
    m_34 [.agg [.list ss.length (ss.map slotD), .one (.int .i64 ip), .one (.int .i64 pr)], .one (.int .i64 (s : Int))] = some (.tup [.list (freeTo ps ps.length).length ((freeTo ps ps.length).map IDn), .one (.int .i64 0)]) := by
  have hsl := (List.getElem?_eq_some_iff.1 hs).1
  have hl := hsm.2 ps (List.mem_of_getElem? hs)
  have hz := hsm.1
  have hf := freeTo_len ps ps.length
  simp only at hz
  rw [m_34_eq]
  unfold undom_M
  have hc : m_32 [.agg [.list ss.length (ss.map slotD), .one (.int .i64 ip), .one (.int .i64 pr)]] = some (.tup [.one (.int .i64 0), .one (.int .i64 0)]) := by
    have := m_32_eq ⟨ss, ip, pr⟩ hsm
    simp only [he] at this
    exact this
  rw [pullD_some ((0 : Int), (0 : Int)) hc (by rfl)]
  dsimp only
  rw [if_neg (by simp), if_neg (by omega), if_neg (by omega), guardP_pos (by omega), pullD_some (ps.length, slotC ps) (readS hs) (by rfl)]
  dsimp only
  rw [uStart ps, runR_scan (uQ ps) (uD ps) (Nat.zero_le ps.length) (fun i _ hi => undom_step ss ip pr s ps hs 0 0 i hi hl hz)]
  by_cases h0 : freeTo ps ps.length = []
  · rw [show uQ ps ps.length = 1 from if_pos h0, show uD ps ps.length = _ from if_pos h0, bindL_some (runR_exit (j := 1) (es := [.one (.tuple #[])]) (by
      rw [undom_L8_S_1]
      unfold undom_L8_S1
      rw [pullD_some (ps.length : Int) (by rfl) (by rfl), if_neg (by omega)])), if_neg (by decide), if_pos rfl, pullD_some () (by rfl) (by rfl), h0]
    rfl
  · rw [show uQ ps ps.length = 0 from if_neg h0, show uD ps ps.length = _ from if_neg h0, bindL_some (runR_exit (j := 0) (es := [.list (freeTo ps ps.length).length ((freeTo ps ps.length).map IDn)]) (by
      rw [undom_L8_S_0]
      unfold undom_L8_S0
      rw [pullD_some ((freeTo ps ps.length).length, (freeTo ps ps.length).map IDn, (ps.length : Int)) (by rfl) (by rfl)]
      dsimp only
      rw [if_neg (by omega)])), if_pos rfl, pullD_some ((freeTo ps ps.length).length, (freeTo ps ps.length).map IDn) (by rfl) (by rfl)]
    dsimp only
    rw [guardP_pos (by simp)]
theorem undom_err (ss : List (List Part)) (ip pr slot : Int) (hsm : Stk.small ⟨ss, ip, pr⟩) (he : (stockE ss ip pr).2 ≠ 0) :
    m_34 [.agg [.list ss.length (ss.map slotD), .one (.int .i64 ip), .one (.int .i64 pr)], .one (.int .i64 slot)] = some (.tup [.list 0 [], .one (.int .i64 (stockE ss ip pr).2)]) := by
  rw [m_34_eq]
  unfold undom_M
  rw [pullD_some ((stockE ss ip pr).1, (stockE ss ip pr).2) (m_32_eq ⟨ss, ip, pr⟩ hsm) (by rfl)]
  dsimp only
  rw [if_pos he]
theorem undom_miss (ss : List (List Part)) (ip pr slot : Int) (hsm : Stk.small ⟨ss, ip, pr⟩) (he : (stockE ss ip pr).2 = 0) (hs : slot < 0 ∨ (ss.length : Int) ≤ slot) :
    m_34 [.agg [.list ss.length (ss.map slotD), .one (.int .i64 ip), .one (.int .i64 pr)], .one (.int .i64 slot)] = some (.tup [.list 0 [], .one (.int .i64 6)]) := by
  rw [m_34_eq]
  unfold undom_M
  rw [pullD_some ((stockE ss ip pr).1, (stockE ss ip pr).2) (m_32_eq ⟨ss, ip, pr⟩ hsm) (by rfl)]
  dsimp only
  rw [if_neg (by simpa using he)]
  by_cases h : slot < 0
  · rw [if_pos h]
  · rw [if_neg h, if_pos (by omega)]
theorem undomR_ok (ss : List (List Part)) (ip pr : Int) (s : Nat) (ps : List Part) (hs : ss[s]? = some ps) (hl : ps.length ≤ 1000000) :
    m_37 [.agg [.list ss.length (ss.map slotD), .one (.int .i64 ip), .one (.int .i64 pr)], .one (.int .i64 (s : Int))] = some (.list (freeTo ps ps.length).length ((freeTo ps ps.length).map IDn)) := by
  have hsl := (List.getElem?_eq_some_iff.1 hs).1
  have hf := freeTo_len ps ps.length
  rw [m_37_eq]
  unfold undomR_M
  rw [guardP_pos (by omega), pullD_some (ps.length, slotC ps) (readS hs) (by rfl)]
  dsimp only
  rw [uStart ps, runR_scan (uQ ps) (uD ps) (Nat.zero_le ps.length) (fun i _ hi => undomR_step ss ip pr s ps i hi hl)]
  by_cases h0 : freeTo ps ps.length = []
  · rw [show uQ ps ps.length = 1 from if_pos h0, show uD ps ps.length = _ from if_pos h0, bindL_some (runR_exit (j := 1) (es := [.one (.tuple #[])]) (by
      rw [undomR_L4_S_1]
      unfold undomR_L4_S1
      rw [pullD_some (ps.length : Int) (by rfl) (by rfl), if_neg (by omega)])), if_neg (by decide), if_pos rfl, pullD_some () (by rfl) (by rfl), h0]
    rfl
  · rw [show uQ ps ps.length = 0 from if_neg h0, show uD ps ps.length = _ from if_neg h0, bindL_some (runR_exit (j := 0) (es := [.list (freeTo ps ps.length).length ((freeTo ps ps.length).map IDn)]) (by
      rw [undomR_L4_S_0]
      unfold undomR_L4_S0
      rw [pullD_some ((freeTo ps ps.length).length, (freeTo ps ps.length).map IDn, (ps.length : Int)) (by rfl) (by rfl)]
      dsimp only
      rw [if_neg (by omega)])), if_pos rfl, pullD_some ((freeTo ps ps.length).length, (freeTo ps ps.length).map IDn) (by rfl) (by rfl)]
    dsimp only
    rw [guardP_pos (by simp)]
end Go.Proofs.YtegjgcogikjemaaDoor
/-
  DERIVED: THE SHELF's CONTRACTS AT THIS DUMP, IN PLAIN WORDS (tools/lay-plain.mjs out of 'TrydShelf.lean', which tools/lay-shelf.mjs wrote): THE SAME DECLARATIONS UNDER THE SAME NAMES: 'import', 'namespace', 'open', 'def', 'theorem' AND NOTHING ELSE: no command of the shelf's: FOR A HAND-IN. Each laying: the table of numbers ('.._ren') and one theorem, a field a fact of the dump's own or the kernel's comparison; each contract: ONE APPLICATION.
-/
namespace Go.Proofs
open Go.Shelf
def Tryd.lays156_ren : Go.Shelf.Ren := ⟨fun | 156 => 150 | 165 => 188 | 166 => 189 | 169 => 190 | 240 => 215 | 241 => 216 | 276 => 232 | 277 => 233 | n => n, fun | 31 => 144 | 9 => 9 | 3 => 3 | 4 => 4 | 0 => 0 | 20 => 20 | 72 => 249 | 76 => 253 | 70 => 247 | 37 => 207 | 75 => 252 | 127 => 276 | 164 => 287 | 5 => 5 | 80 => 205 | n => n, fun | n => n⟩
theorem Tryd.lays156 : Go.Proofs.Lays.n156 Tryd.prog Tryd.lays156_ren := {
  mixed := by kernel_rfl
  f156 := Tryd.func150.trans (congrArg some (by kernel_rfl))
  f165 := Tryd.func188.trans (congrArg some (by kernel_rfl))
  f166 := Tryd.func189.trans (congrArg some (by kernel_rfl))
  f169 := Tryd.func190.trans (congrArg some (by kernel_rfl))
  f240 := Tryd.func215.trans (congrArg some (by kernel_rfl))
  f241 := Tryd.func216.trans (congrArg some (by kernel_rfl))
  f276 := Tryd.func232.trans (congrArg some (by kernel_rfl))
  f277 := Tryd.func233.trans (congrArg some (by kernel_rfl))
  t0 := Tryd.underlying0
  a0 := Tryd.isAgg0
  z0 := Tryd.sizeOf0
  v0 := Tryd.zeroValue0
  t3 := Tryd.underlying3
  a3 := Tryd.isAgg3
  z3 := Tryd.sizeOf3
  v3 := Tryd.zeroValue3
  t4 := Tryd.underlying4
  a4 := Tryd.isAgg4
  z4 := Tryd.sizeOf4
  v4 := Tryd.zeroValue4
  t9 := Tryd.underlying9
  a9 := Tryd.isAgg9
  z9 := Tryd.sizeOf9
  v9 := Tryd.zeroValue9
  t20 := Tryd.underlying20
  a20 := Tryd.isAgg20
  z20 := Tryd.sizeOf20
  v20 := Tryd.zeroValue20
  t31 := Tryd.underlying144
  a31 := Tryd.isAgg144
  z31 := Tryd.sizeOf144
  v31 := Tryd.zeroValue144
  t37 := Tryd.underlying207
  a37 := Tryd.isAgg207
  z37 := Tryd.sizeOf207
  v37 := Tryd.zeroValue207
  t70 := Tryd.underlying247
  a70 := Tryd.isAgg247
  z70 := Tryd.sizeOf247
  v70 := Tryd.zeroValue247
  t72 := Tryd.underlying249
  a72 := Tryd.isAgg249
  z72 := Tryd.sizeOf249
  v72 := Tryd.zeroValue249
  t75 := Tryd.underlying252
  a75 := Tryd.isAgg252
  z75 := Tryd.sizeOf252
  v75 := Tryd.zeroValue252
  t76 := Tryd.underlying253
  a76 := Tryd.isAgg253
  z76 := Tryd.sizeOf253
  v76 := Tryd.zeroValue253
  t127 := Tryd.underlying276
  a127 := Tryd.isAgg276
  z127 := Tryd.sizeOf276
  v127 := Tryd.zeroValue276
  t164 := Tryd.underlying287
  a164 := Tryd.isAgg287
  z164 := Tryd.sizeOf287
  v164 := Tryd.zeroValue287 }
theorem Tryd.Builder_Extra_156 : Builder.Extra Tryd.prog Tryd.lays156_ren := {
  sizeBuilder := by kernel_rfl
  liesBuilder := by kernel_rfl
  t5 := Tryd.underlying5
  a5 := Tryd.isAgg5
  z5 := Tryd.sizeOf5
  v5 := Tryd.zeroValue5
  infoByte := by kernel_rfl
  cellsByte := by kernel_rfl
  sizeByte := by kernel_rfl
  neB5 := by decide }
open Go.RowKit in
/-- No element: the empty string; the world is as it was. (Whatever the slice's address and capacity: a nil slice too.) (LAID: no walk: one application.) -/
theorem Tryd.strings_Join_none (a : Option Addr) (c : Nat) (sep : ByteArray) (w : World) :
    Calls Tryd.prog 150 #[.slice a 0 c, .string sep] w fun e w' => e = .returned (.string ⟨#[]⟩) ∧ w' = w := Any.strings_Join_none Tryd.lays156 Tryd.Builder_Extra_156 a c sep w
open Go.RowKit in
/-- strings.Join: "Join concatenates the elements of its first argument to create a single string. The separator string sep is placed between elements in the resulting string.": HOWEVER MANY ELEMENTS. Below the heap's end the world is as it was. (LAID: no walk: one application.) -/
theorem Tryd.strings_Join (bk o c : Nat) (xs : List ByteArray) (sep : ByteArray) (w : World) (hcells : ∀ (j : Nat) x, xs[j]? = some x → w.cell? ⟨bk, o + j, none⟩ = some (.string x)) (hbk : bk < w.heap.size) (hN : xs.length ≤ 140737488355328) (hcap : xs.length ≤ c) (hlen : (Lib.join (xs.map (·.data.toList)) sep.data.toList).length ≤ 140737488355328) :
    Calls Tryd.prog 150 #[.slice (some ⟨bk, o, none⟩) xs.length c, .string sep] w fun e w' => e = .returned (.string ⟨(Lib.join (xs.map (·.data.toList)) sep.data.toList).toArray⟩) ∧ Below w.heap.size w w' := Any.strings_Join Tryd.lays156 Tryd.Builder_Extra_156 bk o c xs sep w hcells hbk hN hcap hlen
end Go.Proofs
/- strings.Join on values in depth. -/
namespace Go.Proofs.YtegjgcogikjemaaDoor
open Go.Ev Go.RowKit
set_option maxRecDepth 100000
def strD (s : ByteArray) : D := .one (.string s)
def joinB (ss : List ByteArray) (sep : ByteArray) : ByteArray := ⟨(Lib.join (ss.map (·.data.toList)) sep.data.toList).toArray⟩
theorem RpAt_strs {A : Nat → Prop} {w : World} {b : Nat} : ∀ (ss : List ByteArray) (off : Nat), RpAt A w (ss.map strD) b off → ∀ (j : Nat) x, ss[j]? = some x → w.cell? ⟨b, off + j, none⟩ = some (.string x) := by
  intro ss off h j x hj
  obtain ⟨u, hu, hd⟩ := RpAt.get h j (strD x) (by rw [List.getElem?_map, hj]; rfl)
  simp only [strD, Rp] at hd
  rw [hu, hd]
theorem join_all (ss : List ByteArray) (sep : ByteArray) (h1 : ss.length ≤ 140737488355328) (h2 : (Lib.join (ss.map (·.data.toList)) sep.data.toList).length ≤ 140737488355328) : Con 150 [.list ss.length (ss.map strD), strD sep] (strD (joinB ss sep)) := by
  intro w A vs hw hv
  simp only [RpL] at hv
  obtain ⟨u, us, rfl, hu, v, vs, rfl, hv, rfl⟩ := hv
  simp only [strD, Rp] at hv
  subst hv
  simp only [Rp] at hu
  obtain ⟨⟨a, n, c⟩, rfl, hn, hc, hk⟩ := hu
  simp only at hn hc hk
  subst hn
  rcases Nat.eq_zero_or_pos ss.length with h0 | h0
  · have e : ss = [] := List.length_eq_zero_iff.1 h0
    subst e
    refine (Tryd.strings_Join_none a c sep w).mono fun e w' ⟨h3, h4⟩ => ⟨_, h3, ?_, by rw [h4]; exact Below.refl _ _⟩
    simp only [strD, Rp]
    rfl
  · rcases hk with ⟨hk, -⟩ | ⟨b, off, rfl, hb, -, hr⟩
    · omega
    · refine (Tryd.strings_Join b off c ss sep w (RpAt_strs ss off hr) hb h1 hc h2).mono fun e w' ⟨h3, h4⟩ => ⟨_, h3, ?_, h4⟩
      simp only [strD, Rp, joinB]
end Go.Proofs.YtegjgcogikjemaaDoor
/- Stage 2's examples hold. -/
namespace Go.Proofs.YtegjgcogikjemaaDoor
open Go.Ev Go.RowKit
set_option maxRecDepth 100000
noncomputable section
theorem join0 : Con 150 [.list 4 [strD (bytesOf [109, 97, 115, 115]), strD (bytesOf [60, 61]), strD (bytesOf [49, 56]), strD (bytesOf [107, 103])], strD (bytesOf [32])] (strD (bytesOf [109, 97, 115, 115, 32, 60, 61, 32, 49, 56, 32, 107, 103])) := con_val (join_all [(bytesOf [109, 97, 115, 115]), (bytesOf [60, 61]), (bytesOf [49, 56]), (bytesOf [107, 103])] (bytesOf [32]) (by decide) (by decide +kernel)) (by kernel_rfl)
theorem join1 : Con 150 [.list 6 [strD (bytesOf [105, 100, 108, 101]), strD (bytesOf [43]), strD (bytesOf [108, 111, 97, 100]), strD (bytesOf [60, 61]), strD (bytesOf [52, 48]), strD (bytesOf [87])], strD (bytesOf [32])] (strD (bytesOf [105, 100, 108, 101, 32, 43, 32, 108, 111, 97, 100, 32, 60, 61, 32, 52, 48, 32, 87])) := con_val (join_all [(bytesOf [105, 100, 108, 101]), (bytesOf [43]), (bytesOf [108, 111, 97, 100]), (bytesOf [60, 61]), (bytesOf [52, 48]), (bytesOf [87])] (bytesOf [32]) (by decide) (by decide +kernel)) (by kernel_rfl)
theorem join2 : Con 150 [.list 2 [strD (bytesOf [109, 97, 115, 115, 32, 60, 61, 32, 49, 56, 32, 107, 103]), strD (bytesOf [105, 100, 108, 101, 32, 43, 32, 108, 111, 97, 100, 32, 60, 61, 32, 52, 48, 32, 87])], strD (bytesOf [32, 59, 32])] (strD (bytesOf [109, 97, 115, 115, 32, 60, 61, 32, 49, 56, 32, 107, 103, 32, 59, 32, 105, 100, 108, 101, 32, 43, 32, 108, 111, 97, 100, 32, 60, 61, 32, 52, 48, 32, 87])) := con_val (join_all [(bytesOf [109, 97, 115, 115, 32, 60, 61, 32, 49, 56, 32, 107, 103]), (bytesOf [105, 100, 108, 101, 32, 43, 32, 108, 111, 97, 100, 32, 60, 61, 32, 52, 48, 32, 87])] (bytesOf [32, 59, 32]) (by decide) (by decide +kernel)) (by kernel_rfl)
theorem aw_all : Con 30 [] (.one (.bool true)) :=
  con_ofK (S := []) (K := [150]) (sp := []) (n := 60000) (ora := []) (res := [strD (bytesOf [109, 97, 115, 115, 32, 60, 61, 32, 49, 56, 32, 107, 103]), strD (bytesOf [105, 100, 108, 101, 32, 43, 32, 108, 111, 97, 100, 32, 60, 61, 32, 52, 48, 32, 87]), strD (bytesOf [109, 97, 115, 115, 32, 60, 61, 32, 49, 56, 32, 107, 103, 32, 59, 32, 105, 100, 108, 101, 32, 43, 32, 108, 111, 97, 100, 32, 60, 61, 32, 52, 48, 32, 87])]) (conds := [(fact (4 * 1 ≤ 4 ∧ 0 < 1), true), (fact (6 * 1 ≤ 6 ∧ 0 < 1), true), (fact (1 + 1 ≤ 1 + 1), true)]) (cls := [.call 150 [.list 4 [strD (bytesOf [109, 97, 115, 115]), strD (bytesOf [60, 61]), strD (bytesOf [49, 56]), strD (bytesOf [107, 103])], strD (bytesOf [32])] (strD (bytesOf [109, 97, 115, 115, 32, 60, 61, 32, 49, 56, 32, 107, 103])), .call 150 [.list 6 [strD (bytesOf [105, 100, 108, 101]), strD (bytesOf [43]), strD (bytesOf [108, 111, 97, 100]), strD (bytesOf [60, 61]), strD (bytesOf [52, 48]), strD (bytesOf [87])], strD (bytesOf [32])] (strD (bytesOf [105, 100, 108, 101, 32, 43, 32, 108, 111, 97, 100, 32, 60, 61, 32, 52, 48, 32, 87])), .call 150 [.list 2 [strD (bytesOf [109, 97, 115, 115, 32, 60, 61, 32, 49, 56, 32, 107, 103]), strD (bytesOf [105, 100, 108, 101, 32, 43, 32, 108, 111, 97, 100, 32, 60, 61, 32, 52, 48, 32, 87])], strD (bytesOf [32, 59, 32])] (strD (bytesOf [109, 97, 115, 115, 32, 60, 61, 32, 49, 56, 32, 107, 103, 32, 59, 32, 105, 100, 108, 101, 32, 43, 32, 108, 111, 97, 100, 32, 60, 61, 32, 52, 48, 32, 87]))])
    (by kernel_rfl) ⟨fact_mk (by decide), fact_mk (by decide), fact_mk (by decide), trivial⟩ ⟨join0, join1, join2, trivial⟩
def m_30 (ds : List D) : Option D := pullD (some (.tup ds)) (fun _ => ()) (fun _ => .tup []) fun _ => some (.one (.bool true))
theorem m_30_ok {ds : List D} {r : D} (h : m_30 ds = some r) : Con 30 ds r := by
  unfold m_30 at h
  obtain ⟨⟨⟩, e0, h0⟩ := pullD_elim h
  obtain rfl := tup_inj e0
  obtain rfl := Option.some.inj h0
  exact aw_all
theorem m_30_eq : m_30 [] = some (.one (.bool true)) := pullD_some () rfl rfl
end
end Go.Proofs.YtegjgcogikjemaaDoor
namespace Go.Proofs.YtegjgcogikjemaaDoor
open Go.Ev Go.RowKit
set_option maxRecDepth 100000
set_option linter.all false
noncomputable section
def few_x4_0 : LExit := ⟨some 0, [], (4 :: (5 :: (List.range' 18 15)))⟩
def few_x4_1 : LExit := ⟨none, [.val 4], (5 :: (List.range' 18 15))⟩
def few_x9_0 : LExit := ⟨some 2, [], (4 :: (6 :: (7 :: (List.range' 33 35))))⟩
def few_x9_1 : LExit := ⟨none, [.val 4], (6 :: (7 :: (List.range' 33 35)))⟩
def few_x14_0 : LExit := ⟨some 4, [], (4 :: (7 :: (List.range' 47 21)))⟩
def few_x14_1 : LExit := ⟨none, [.val 4], (7 :: (List.range' 47 21))⟩
def few_sp : List LSpec := [⟨31, 4, [few_x4_0, few_x4_1]⟩, ⟨31, 9, [few_x9_0, few_x9_1]⟩, ⟨31, 14, [few_x14_0, few_x14_1]⟩]
def few_L14_E (a : Nat) (b : List D) (k : Nat) (c : List D) (ip pr : Int) (x0 : Int) (x1 : Nat) (x2 : List D) : List AV × AHeap := ([.agg [.dsl 0], .agg [.dsl 1, .pure (.int .i64 ip), .pure (.int .i64 pr)], .ptr 2 0, .ptr 3 0, .any 21, .any 5, .pure (.int .i64 x0), .pure (.int .i64 (0 : Int)), .ptr 2 0, .dsl 0, .pure (.int .i64 (a : Int)), .pure (.bool (decide ((a : Int) > (8 : Int)))), .pure (.bool (decide ((a : Int) > (8 : Int)))), .ptr 3 0, .dsl 1, .pure (.int .i64 (k : Int)), .pure (.bool (decide ((k : Int) > (7 : Int)))), .pure (.bool (decide ((k : Int) > (7 : Int)))), .any 6, .any 7, .any 8, .any 9, .any 10, .any 11, .any 12, .any 13, .any 14, .any 15, .any 16, .any 17, .any 18, .any 19, .any 20, .pure (.int .i64 x0), .ptr 3 0, .dsl 1, .pure (.int .i64 (k : Int)), .pure (.bool (decide (x0 < (k : Int)))), .any 28, .any 29, .ptr 3 0, .dsl 1, .pure (.int .i64 x0), .dptr 1 (x0.toNat * 1), .dsl 59, .pure (.int .i64 (x1 : Int)), .pure (.bool (decide ((x1 : Int) > (8 : Int)))), .any 37, .any 38, .any 39, .any 40, .any 41, .any 42, .any 43, .any 44, .any 45, .any 46, .any 47, .any 48, .any 49, .any 50, .any 51, .any 52, .any 53, .any 54, .any 55, .any 56, .any 57], [(59, { cells := [], opn := none, kind := .deep x1 x2 }), (3, { cells := [.dsl 1, .pure (.int .i64 ip), .pure (.int .i64 pr)], opn := none, kind := .cells }), (2, { cells := [.dsl 0], opn := none, kind := .cells }), (1, { cells := [], opn := none, kind := .deep k c }), (0, { cells := [], opn := none, kind := .deep a b })])
def few_L14_A : LoopAt := ⟨31, loopAt Tryd.prog 31 2, 60, 83, 60, noFrame⟩
theorem few_L14_ok : (few_L14_A).OK := ⟨by show 60 ≤ 83; decide, by show 60 ≤ 60; decide, by kernel_rfl, rfl⟩
def few_L14_gs (a : Nat) (b : List D) (k : Nat) (c : List D) (ip pr : Int) (x0 : Int) (x1 : Nat) (x2 : List D) : Go.Ev.Rd → Option GS
  | .next 0 ds => ghost [.val 7] (4 :: (List.range' 47 21)) (few_L14_E a b k c ip pr x0 x1 x2).1 (few_L14_E a b k c ip pr x0 x1 x2).2 60 ds
  | .out 0 ds => ghost few_x14_0.live few_x14_0.junk (few_L14_E a b k c ip pr x0 x1 x2).1 (few_L14_E a b k c ip pr x0 x1 x2).2 60 ds
  | .out 1 ds => ghost few_x14_1.live few_x14_1.junk (few_L14_E a b k c ip pr x0 x1 x2).1 (few_L14_E a b k c ip pr x0 x1 x2).2 60 ds
  | _ => none
def few_L14_ex : Nat → Option Nat
  | 0 => few_x14_0.ex
  | 1 => few_x14_1.ex
  | _ => none
def few_L14_ax : Go.Ev.Rd → AX
  | .next _ _ => .normal
  | .out j _ => axOf (few_L14_ex j)
def few_L14_S0 (a : Nat) (b : List D) (k : Nat) (c : List D) (ip pr : Int) (x0 : Int) (x1 : Nat) (x2 : List D) (ds : List D) : Option Go.Ev.Rd := pullD (α := Int) (some (.tup ds)) (fun d => ((D.vi (D.at d 0)))) (fun s7 => .tup [.one (.int .i64 s7)]) fun s7 => (guardP ((0 : Int) ≤ x0 ∧ x0.toNat < k) (pullD (α := Nat × (List D)) (readD c (x0.toNat * 1) 1 false) (fun d => ((D.ln d), (D.lc d))) (fun (k0, c1) => .list k0 c1) fun (k0, c1) => ((if s7 < (k0 : Int) then pullD (α := Nat × (List D)) (readD c (x0.toNat * 1) 1 false) (fun d => ((D.ln d), (D.lc d))) (fun (k2, c3) => .list k2 c3) fun (k2, c3) => (guardP ((0 : Int) ≤ s7 ∧ s7.toNat < k2) (guardP (0 < k2) (pullD (α := ByteArray) (readD c3 (s7.toNat * 14 + 0) 1 false) (fun d => ((D.vs d))) (fun v4 => .one (.string v4)) fun v4 => ((if (v4.size : Int) > (20 : Int) then some (.out 1 [.one (.bool false)]) else some (.next 0 [.one (.int .i64 (IntKind.i64.wrap (s7 + (1 : Int))))])))))) else some (.out 0 [])))))
def few_L14_S (a : Nat) (b : List D) (k : Nat) (c : List D) (ip pr : Int) (x0 : Int) (x1 : Nat) (x2 : List D) : Go.Ev.Rd → Option Go.Ev.Rd
  | .next 0 ds => few_L14_S0 a b k c ip pr x0 x1 x2 ds
  | _ => none
theorem few_L14_S_0 (a : Nat) (b : List D) (k : Nat) (c : List D) (ip pr : Int) (x0 : Int) (x1 : Nat) (x2 : List D) (ds : List D) : few_L14_S a b k c ip pr x0 x1 x2 (.next 0 ds) = few_L14_S0 a b k c ip pr x0 x1 x2 ds := rfl
theorem few_L14_S_ok (a : Nat) (b : List D) (k : Nat) (c : List D) (ip pr : Int) (x0 : Int) (x1 : Nat) (x2 : List D) : ∀ s_ t_, few_L14_S a b k c ip pr x0 x1 x2 s_ = some t_ → Step (ctx [31] few_sp) Tabs few_L14_A (stateOf (few_L14_gs a b k c ip pr x0 x1 x2 s_)) (stateOf (few_L14_gs a b k c ip pr x0 x1 x2 t_)) (few_L14_ax t_) ∧ EndOK few_L14_A.nx few_L14_A.low (few_L14_gs a b k c ip pr x0 x1 x2) t_
  | .next 0 ds, t_, h => by
    have h_ : few_L14_S0 a b k c ip pr x0 x1 x2 ds = some t_ := h
    clear h
    unfold few_L14_S0 at h_
    obtain ⟨s7, e0, h0⟩ := pullD_elim h_
    clear h_
    obtain rfl := tup_inj e0
    obtain ⟨f1_, h2_⟩ := guardP_elim h0
    obtain ⟨⟨k0, c1⟩, f3_, h4_⟩ := pullD_elim h2_
    replace f3_ := readD_elim f3_
    by_cases b5_ : s7 < (k0 : Int)
    · have h6_ := (if_pos b5_).symm.trans h4_
      obtain ⟨⟨k2, c3⟩, f7_, h8_⟩ := pullD_elim h6_
      replace f7_ := readD_elim f7_
      obtain ⟨f9_, h10_⟩ := guardP_elim h8_
      obtain ⟨f11_, h12_⟩ := guardP_elim h10_
      obtain ⟨v4, f13_, h14_⟩ := pullD_elim h12_
      replace f13_ := readD_elim f13_
      by_cases b15_ : (v4.size : Int) > (20 : Int)
      · have h16_ := (if_pos b15_).symm.trans h14_
        obtain rfl := Option.some.inj h16_
        exact ⟨step_pc 3000 (bT 2 []) [.list k0 c1, .list k2 c3, .one (.string v4)] [c_f f1_, c_f f3_, c_d b5_, c_f f1_, c_f f7_, c_f f9_, c_f f11_, c_f f13_, c_d b15_] [] _ rfl (by kernel_rfl) (by kernel_rfl) (by kernel_rfl) (by kernel_rfl) (by kernel_rfl) (by kernel_rfl), by kernel_rfl, by kernel_rfl⟩
      · have h16_ := (if_neg b15_).symm.trans h14_
        obtain rfl := Option.some.inj h16_
        exact ⟨step_pc 3000 (bT 1 (bF 1 [])) [.list k0 c1, .list k2 c3, .one (.string v4)] [c_f f1_, c_f f3_, c_d b5_, c_f f1_, c_f f7_, c_f f9_, c_f f11_, c_f f13_, c_n b15_] [] _ rfl (by kernel_rfl) (by kernel_rfl) (by kernel_rfl) (by kernel_rfl) (by kernel_rfl) (by kernel_rfl), trivial⟩
    · have h6_ := (if_neg b5_).symm.trans h4_
      obtain rfl := Option.some.inj h6_
      exact ⟨step_pc 3000 (bF 1 []) [.list k0 c1] [c_f f1_, c_f f3_, c_n b5_] [] _ rfl (by kernel_rfl) (by kernel_rfl) (by kernel_rfl) (by kernel_rfl) (by kernel_rfl) (by kernel_rfl), by kernel_rfl, by kernel_rfl⟩
  | .next (_ + 1) _, _, h => by cases h
  | .out _ _, _, h => by cases h
theorem few_L14_go (a : Nat) (b : List D) (k : Nat) (c : List D) (ip pr : Int) (x0 : Int) (x1 : Nat) (x2 : List D) {q : Nat} {ds : List D} {j : Nat} {es : List D} (h : runR (few_L14_S a b k c ip pr x0 x1 x2) (.next q ds) = some (.out j es)) : Runs (ctx [31] few_sp) Tabs few_L14_A (stateOf (few_L14_gs a b k c ip pr x0 x1 x2 (.next q ds))) (stateOf (few_L14_gs a b k c ip pr x0 x1 x2 (.out j es))) (few_L14_ax (.out j es)) ∧ (nxtOf (few_L14_gs a b k c ip pr x0 x1 x2 (.out j es)), lowGS (few_L14_gs a b k c ip pr x0 x1 x2 (.out j es))) = (few_L14_A.nx, few_L14_A.low) :=
  runs_of' (good true _ _) few_L14_ok (ax := few_L14_ax) (fun _ _ => rfl) (fun _ _ => axOf_end _) (few_L14_S_ok a b k c ip pr x0 x1 x2) h
theorem few_L14_in0 (a : Nat) (b : List D) (k : Nat) (c : List D) (ip pr : Int) (x0 : Int) (x1 : Nat) (x2 : List D) {es : List D} (h : runR (few_L14_S a b k c ip pr x0 x1 x2) (.next 0 [.one (.int .i64 ((0 : Int)))]) = some (.out 0 es)) : LoopC (loopAt Tryd.prog 31 2) (few_L14_E a b k c ip pr x0 x1 x2) 60 noFrame few_x14_0 es :=
  have r := few_L14_go a b k c ip pr x0 x1 x2 h
  loopin_as rfl (loop_in (l := few_L14_A) (E := (few_L14_E a b k c ip pr x0 x1 x2)) (S := stateOf (few_L14_gs a b k c ip pr x0 x1 x2 (.next 0 [.one (.int .i64 ((0 : Int)))]))) (ns := nsOf (few_L14_gs a b k c ip pr x0 x1 x2 (.next 0 [.one (.int .i64 ((0 : Int)))]))) few_L14_ok r.1 r.2 (by kernel_rfl) (by kernel_rfl) (by kernel_rfl) (by kernel_rfl))
theorem few_L14_in1 (a : Nat) (b : List D) (k : Nat) (c : List D) (ip pr : Int) (x0 : Int) (x1 : Nat) (x2 : List D) {es : List D} (h : runR (few_L14_S a b k c ip pr x0 x1 x2) (.next 0 [.one (.int .i64 ((0 : Int)))]) = some (.out 1 es)) : LoopC (loopAt Tryd.prog 31 2) (few_L14_E a b k c ip pr x0 x1 x2) 60 noFrame few_x14_1 es :=
  have r := few_L14_go a b k c ip pr x0 x1 x2 h
  loopin_as rfl (loop_in (l := few_L14_A) (E := (few_L14_E a b k c ip pr x0 x1 x2)) (S := stateOf (few_L14_gs a b k c ip pr x0 x1 x2 (.next 0 [.one (.int .i64 ((0 : Int)))]))) (ns := nsOf (few_L14_gs a b k c ip pr x0 x1 x2 (.next 0 [.one (.int .i64 ((0 : Int)))]))) few_L14_ok r.1 r.2 (by kernel_rfl) (by kernel_rfl) (by kernel_rfl) (by kernel_rfl))
def few_L9_E (a : Nat) (b : List D) (k : Nat) (c : List D) (ip pr : Int)  : List AV × AHeap := ([.agg [.dsl 0], .agg [.dsl 1, .pure (.int .i64 ip), .pure (.int .i64 pr)], .ptr 2 0, .ptr 3 0, .any 4, .any 5, .pure (.int .i64 (0 : Int)), .pure (.tuple #[]), .ptr 2 0, .dsl 0, .pure (.int .i64 (a : Int)), .pure (.bool (decide ((a : Int) > (8 : Int)))), .pure (.bool (decide ((a : Int) > (8 : Int)))), .ptr 3 0, .dsl 1, .pure (.int .i64 (k : Int)), .pure (.bool (decide ((k : Int) > (7 : Int)))), .pure (.bool (decide ((k : Int) > (7 : Int)))), .any 6, .any 7, .any 8, .any 9, .any 10, .any 11, .any 12, .any 13, .any 14, .any 15, .any 16, .any 17, .any 18, .any 19, .any 20, .pure (.tuple #[]), .pure (.tuple #[]), .pure (.tuple #[]), .pure (.tuple #[]), .pure (.tuple #[]), .pure (.tuple #[]), .pure (.tuple #[]), .pure (.tuple #[]), .pure (.tuple #[]), .pure (.tuple #[]), .pure (.tuple #[]), .pure (.tuple #[]), .pure (.tuple #[]), .pure (.tuple #[]), .pure (.tuple #[]), .pure (.tuple #[]), .pure (.tuple #[]), .pure (.tuple #[]), .pure (.tuple #[]), .pure (.tuple #[]), .pure (.tuple #[]), .pure (.tuple #[]), .pure (.tuple #[]), .pure (.tuple #[]), .pure (.tuple #[]), .pure (.tuple #[]), .pure (.tuple #[]), .pure (.tuple #[]), .pure (.tuple #[]), .pure (.tuple #[]), .pure (.tuple #[]), .pure (.tuple #[]), .pure (.tuple #[]), .pure (.tuple #[]), .pure (.tuple #[])], [(3, { cells := [.dsl 1, .pure (.int .i64 ip), .pure (.int .i64 pr)], opn := none, kind := .cells }), (2, { cells := [.dsl 0], opn := none, kind := .cells }), (1, { cells := [], opn := none, kind := .deep k c }), (0, { cells := [], opn := none, kind := .deep a b })])
def few_L9_A : LoopAt := ⟨31, loopAt Tryd.prog 31 1, 21, 59, 21, noFrame⟩
theorem few_L9_ok : (few_L9_A).OK := ⟨by show 21 ≤ 59; decide, by show 21 ≤ 21; decide, by kernel_rfl, rfl⟩
def few_L9_gs (a : Nat) (b : List D) (k : Nat) (c : List D) (ip pr : Int)  : Go.Ev.Rd → Option GS
  | .next 0 ds => ghost [.val 6] (4 :: (7 :: (List.range' 33 35))) (few_L9_E a b k c ip pr).1 (few_L9_E a b k c ip pr).2 21 ds
  | .out 0 ds => ghost few_x9_0.live few_x9_0.junk (few_L9_E a b k c ip pr).1 (few_L9_E a b k c ip pr).2 21 ds
  | .out 1 ds => ghost few_x9_1.live few_x9_1.junk (few_L9_E a b k c ip pr).1 (few_L9_E a b k c ip pr).2 21 ds
  | _ => none
def few_L9_ex : Nat → Option Nat
  | 0 => few_x9_0.ex
  | 1 => few_x9_1.ex
  | _ => none
def few_L9_ax : Go.Ev.Rd → AX
  | .next _ _ => .normal
  | .out j _ => axOf (few_L9_ex j)
def few_L9_S0 (a : Nat) (b : List D) (k : Nat) (c : List D) (ip pr : Int)  (ds : List D) : Option Go.Ev.Rd := pullD (α := Int) (some (.tup ds)) (fun d => ((D.vi (D.at d 0)))) (fun s6 => .tup [.one (.int .i64 s6)]) fun s6 => ((if s6 < (k : Int) then guardP ((0 : Int) ≤ s6 ∧ s6.toNat < k) (pullD (α := Nat × (List D)) (readD c (s6.toNat * 1) 1 false) (fun d => ((D.ln d), (D.lc d))) (fun (k0, c1) => .list k0 c1) fun (k0, c1) => ((if (k0 : Int) > (8 : Int) then some (.out 1 [.one (.bool false)]) else bindL (runR (few_L14_S a b k c ip pr s6 k0 c1) (.next 0 [.one (.int .i64 ((0 : Int)))])) fun j ds => (if j = 0 then pullD (some (.tup ds)) (fun _ => ()) (fun _ => .tup []) fun _ => (some (.next 0 [.one (.int .i64 (IntKind.i64.wrap (s6 + (1 : Int))))])) else if j = 1 then pullD (α := Bool) (some (.tup ds)) (fun d => ((D.vb (D.at d 0)))) (fun l2 => .tup [.one (.bool l2)]) fun l2 => (some (.out 1 [.one (.bool l2)])) else none)))) else some (.out 0 [])))
def few_L9_S (a : Nat) (b : List D) (k : Nat) (c : List D) (ip pr : Int)  : Go.Ev.Rd → Option Go.Ev.Rd
  | .next 0 ds => few_L9_S0 a b k c ip pr ds
  | _ => none
theorem few_L9_S_0 (a : Nat) (b : List D) (k : Nat) (c : List D) (ip pr : Int)  (ds : List D) : few_L9_S a b k c ip pr (.next 0 ds) = few_L9_S0 a b k c ip pr ds := rfl
theorem few_L9_S_ok (a : Nat) (b : List D) (k : Nat) (c : List D) (ip pr : Int)  : ∀ s_ t_, few_L9_S a b k c ip pr s_ = some t_ → Step (ctx [31] few_sp) Tabs few_L9_A (stateOf (few_L9_gs a b k c ip pr s_)) (stateOf (few_L9_gs a b k c ip pr t_)) (few_L9_ax t_) ∧ EndOK few_L9_A.nx few_L9_A.low (few_L9_gs a b k c ip pr) t_
  | .next 0 ds, t_, h => by
    have h_ : few_L9_S0 a b k c ip pr ds = some t_ := h
    clear h
    unfold few_L9_S0 at h_
    obtain ⟨s6, e0, h0⟩ := pullD_elim h_
    clear h_
    obtain rfl := tup_inj e0
    by_cases b1_ : s6 < (k : Int)
    · have h2_ := (if_pos b1_).symm.trans h0
      obtain ⟨f3_, h4_⟩ := guardP_elim h2_
      obtain ⟨⟨k0, c1⟩, f5_, h6_⟩ := pullD_elim h4_
      replace f5_ := readD_elim f5_
      by_cases b7_ : (k0 : Int) > (8 : Int)
      · have h8_ := (if_pos b7_).symm.trans h6_
        obtain rfl := Option.some.inj h8_
        exact ⟨step_pc 3000 (bT 2 []) [.list k0 c1] [c_d b1_, c_f f3_, c_f f5_, c_d b7_] [] _ rfl (by kernel_rfl) (by kernel_rfl) (by kernel_rfl) (by kernel_rfl) (by kernel_rfl) (by kernel_rfl), by kernel_rfl, by kernel_rfl⟩
      · have h8_ := (if_neg b7_).symm.trans h6_
        obtain ⟨j, ds, e9_, h10_⟩ := bindL_elim h8_
        by_cases j11_ : j = 0
        · have h14_ := (if_pos j11_).symm.trans h10_
          clear h10_
          subst j11_
          obtain ⟨⟨⟩, e12_, h15_⟩ := pullD_elim h14_
          clear h14_
          obtain rfl := tup_inj e12_
          have k13_ := few_L14_in0 a b k c ip pr s6 k0 c1 e9_
          obtain rfl := Option.some.inj h15_
          exact ⟨step_pc 3000 (bT 1 (bF 1 [])) [.list k0 c1, .tup [.one (.int .i64 (Int.ofNat 0))]] [c_d b1_, c_f f3_, c_f f5_, c_n b7_] [k_l k13_ [] [.tup [.one (.int .i64 (Int.ofNat 0))]] []] _ rfl (by kernel_rfl) (by kernel_rfl) (by kernel_rfl) (by kernel_rfl) (by kernel_rfl) (by kernel_rfl), trivial⟩
        have h16_ := (if_neg j11_).symm.trans h10_
        clear h10_
        by_cases j17_ : j = 1
        · have h20_ := (if_pos j17_).symm.trans h16_
          clear h16_
          subst j17_
          obtain ⟨l2, e18_, h21_⟩ := pullD_elim h20_
          clear h20_
          obtain rfl := tup_inj e18_
          have k19_ := few_L14_in1 a b k c ip pr s6 k0 c1 e9_
          obtain rfl := Option.some.inj h21_
          exact ⟨step_pc 3000 (bT 1 (bF 1 [])) [.list k0 c1, .tup [.one (.int .i64 (Int.ofNat 1)), .one (.bool l2)]] [c_d b1_, c_f f3_, c_f f5_, c_n b7_] [k_l k19_ [] [.tup [.one (.int .i64 (Int.ofNat 1)), .one (.bool l2)]] []] _ rfl (by kernel_rfl) (by kernel_rfl) (by kernel_rfl) (by kernel_rfl) (by kernel_rfl) (by kernel_rfl), by kernel_rfl, by kernel_rfl⟩
        have h22_ := (if_neg j17_).symm.trans h16_
        clear h16_
        cases h22_
    · have h2_ := (if_neg b1_).symm.trans h0
      obtain rfl := Option.some.inj h2_
      exact ⟨step_pc 3000 (bF 1 []) [] [c_n b1_] [] _ rfl (by kernel_rfl) (by kernel_rfl) (by kernel_rfl) (by kernel_rfl) (by kernel_rfl) (by kernel_rfl), by kernel_rfl, by kernel_rfl⟩
  | .next (_ + 1) _, _, h => by cases h
  | .out _ _, _, h => by cases h
theorem few_L9_go (a : Nat) (b : List D) (k : Nat) (c : List D) (ip pr : Int)  {q : Nat} {ds : List D} {j : Nat} {es : List D} (h : runR (few_L9_S a b k c ip pr) (.next q ds) = some (.out j es)) : Runs (ctx [31] few_sp) Tabs few_L9_A (stateOf (few_L9_gs a b k c ip pr (.next q ds))) (stateOf (few_L9_gs a b k c ip pr (.out j es))) (few_L9_ax (.out j es)) ∧ (nxtOf (few_L9_gs a b k c ip pr (.out j es)), lowGS (few_L9_gs a b k c ip pr (.out j es))) = (few_L9_A.nx, few_L9_A.low) :=
  runs_of' (good true _ _) few_L9_ok (ax := few_L9_ax) (fun _ _ => rfl) (fun _ _ => axOf_end _) (few_L9_S_ok a b k c ip pr) h
theorem few_L9_in0 (a : Nat) (b : List D) (k : Nat) (c : List D) (ip pr : Int)  {es : List D} (h : runR (few_L9_S a b k c ip pr) (.next 0 [.one (.int .i64 ((0 : Int)))]) = some (.out 0 es)) : LoopC (loopAt Tryd.prog 31 1) (few_L9_E a b k c ip pr) 21 noFrame few_x9_0 es :=
  have r := few_L9_go a b k c ip pr h
  loopin_as rfl (loop_in (l := few_L9_A) (E := (few_L9_E a b k c ip pr)) (S := stateOf (few_L9_gs a b k c ip pr (.next 0 [.one (.int .i64 ((0 : Int)))]))) (ns := nsOf (few_L9_gs a b k c ip pr (.next 0 [.one (.int .i64 ((0 : Int)))]))) few_L9_ok r.1 r.2 (by kernel_rfl) (by kernel_rfl) (by kernel_rfl) (by kernel_rfl))
theorem few_L9_in1 (a : Nat) (b : List D) (k : Nat) (c : List D) (ip pr : Int)  {es : List D} (h : runR (few_L9_S a b k c ip pr) (.next 0 [.one (.int .i64 ((0 : Int)))]) = some (.out 1 es)) : LoopC (loopAt Tryd.prog 31 1) (few_L9_E a b k c ip pr) 21 noFrame few_x9_1 es :=
  have r := few_L9_go a b k c ip pr h
  loopin_as rfl (loop_in (l := few_L9_A) (E := (few_L9_E a b k c ip pr)) (S := stateOf (few_L9_gs a b k c ip pr (.next 0 [.one (.int .i64 ((0 : Int)))]))) (ns := nsOf (few_L9_gs a b k c ip pr (.next 0 [.one (.int .i64 ((0 : Int)))]))) few_L9_ok r.1 r.2 (by kernel_rfl) (by kernel_rfl) (by kernel_rfl) (by kernel_rfl))
def few_L4_E (a : Nat) (b : List D) (k : Nat) (c : List D) (ip pr : Int)  : List AV × AHeap := ([.agg [.dsl 0], .agg [.dsl 1, .pure (.int .i64 ip), .pure (.int .i64 pr)], .ptr 2 0, .ptr 3 0, .pure (.bool false), .pure (.int .i64 (0 : Int)), .pure (.tuple #[]), .pure (.tuple #[]), .ptr 2 0, .dsl 0, .pure (.int .i64 (a : Int)), .pure (.bool (decide ((a : Int) > (8 : Int)))), .pure (.bool (decide ((a : Int) > (8 : Int)))), .ptr 3 0, .dsl 1, .pure (.int .i64 (k : Int)), .pure (.bool (decide ((k : Int) > (7 : Int)))), .pure (.bool (decide ((k : Int) > (7 : Int)))), .pure (.tuple #[]), .pure (.tuple #[]), .pure (.tuple #[]), .pure (.tuple #[]), .pure (.tuple #[]), .pure (.tuple #[]), .pure (.tuple #[]), .pure (.tuple #[]), .pure (.tuple #[]), .pure (.tuple #[]), .pure (.tuple #[]), .pure (.tuple #[]), .pure (.tuple #[]), .pure (.tuple #[]), .pure (.tuple #[]), .pure (.tuple #[]), .pure (.tuple #[]), .pure (.tuple #[]), .pure (.tuple #[]), .pure (.tuple #[]), .pure (.tuple #[]), .pure (.tuple #[]), .pure (.tuple #[]), .pure (.tuple #[]), .pure (.tuple #[]), .pure (.tuple #[]), .pure (.tuple #[]), .pure (.tuple #[]), .pure (.tuple #[]), .pure (.tuple #[]), .pure (.tuple #[]), .pure (.tuple #[]), .pure (.tuple #[]), .pure (.tuple #[]), .pure (.tuple #[]), .pure (.tuple #[]), .pure (.tuple #[]), .pure (.tuple #[]), .pure (.tuple #[]), .pure (.tuple #[]), .pure (.tuple #[]), .pure (.tuple #[]), .pure (.tuple #[]), .pure (.tuple #[]), .pure (.tuple #[]), .pure (.tuple #[]), .pure (.tuple #[]), .pure (.tuple #[]), .pure (.tuple #[]), .pure (.tuple #[])], [(3, { cells := [.dsl 1, .pure (.int .i64 ip), .pure (.int .i64 pr)], opn := none, kind := .cells }), (2, { cells := [.dsl 0], opn := none, kind := .cells }), (1, { cells := [], opn := none, kind := .deep k c }), (0, { cells := [], opn := none, kind := .deep a b })])
def few_L4_A : LoopAt := ⟨31, loopAt Tryd.prog 31 0, 4, 21, 4, noFrame⟩
theorem few_L4_ok : (few_L4_A).OK := ⟨by show 4 ≤ 21; decide, by show 4 ≤ 4; decide, by kernel_rfl, rfl⟩
def few_L4_gs (a : Nat) (b : List D) (k : Nat) (c : List D) (ip pr : Int)  : Go.Ev.Rd → Option GS
  | .next 0 ds => ghost [.val 5] (4 :: (List.range' 18 15)) (few_L4_E a b k c ip pr).1 (few_L4_E a b k c ip pr).2 4 ds
  | .out 0 ds => ghost few_x4_0.live few_x4_0.junk (few_L4_E a b k c ip pr).1 (few_L4_E a b k c ip pr).2 4 ds
  | .out 1 ds => ghost few_x4_1.live few_x4_1.junk (few_L4_E a b k c ip pr).1 (few_L4_E a b k c ip pr).2 4 ds
  | _ => none
def few_L4_ex : Nat → Option Nat
  | 0 => few_x4_0.ex
  | 1 => few_x4_1.ex
  | _ => none
def few_L4_ax : Go.Ev.Rd → AX
  | .next _ _ => .normal
  | .out j _ => axOf (few_L4_ex j)
def few_L4_S0 (a : Nat) (b : List D) (k : Nat) (c : List D) (ip pr : Int)  (ds : List D) : Option Go.Ev.Rd := pullD (α := Int) (some (.tup ds)) (fun d => ((D.vi (D.at d 0)))) (fun s5 => .tup [.one (.int .i64 s5)]) fun s5 => ((if s5 < (a : Int) then guardP ((0 : Int) ≤ s5 ∧ s5.toNat < a) (guardP (0 < a) (pullD (α := Nat × (List D)) (readD b (s5.toNat * 4 + 0) 1 false) (fun d => ((D.ln d), (D.lc d))) (fun (k0, c1) => .list k0 c1) fun (k0, c1) => ((if (k0 : Int) > (6 : Int) then some (.out 1 [.one (.bool false)]) else some (.next 0 [.one (.int .i64 (IntKind.i64.wrap (s5 + (1 : Int))))]))))) else some (.out 0 [])))
def few_L4_S (a : Nat) (b : List D) (k : Nat) (c : List D) (ip pr : Int)  : Go.Ev.Rd → Option Go.Ev.Rd
  | .next 0 ds => few_L4_S0 a b k c ip pr ds
  | _ => none
theorem few_L4_S_0 (a : Nat) (b : List D) (k : Nat) (c : List D) (ip pr : Int)  (ds : List D) : few_L4_S a b k c ip pr (.next 0 ds) = few_L4_S0 a b k c ip pr ds := rfl
theorem few_L4_S_ok (a : Nat) (b : List D) (k : Nat) (c : List D) (ip pr : Int)  : ∀ s_ t_, few_L4_S a b k c ip pr s_ = some t_ → Step (ctx [31] few_sp) Tabs few_L4_A (stateOf (few_L4_gs a b k c ip pr s_)) (stateOf (few_L4_gs a b k c ip pr t_)) (few_L4_ax t_) ∧ EndOK few_L4_A.nx few_L4_A.low (few_L4_gs a b k c ip pr) t_
  | .next 0 ds, t_, h => by
    have h_ : few_L4_S0 a b k c ip pr ds = some t_ := h
    clear h
    unfold few_L4_S0 at h_
    obtain ⟨s5, e0, h0⟩ := pullD_elim h_
    clear h_
    obtain rfl := tup_inj e0
    by_cases b1_ : s5 < (a : Int)
    · have h2_ := (if_pos b1_).symm.trans h0
      obtain ⟨f3_, h4_⟩ := guardP_elim h2_
      obtain ⟨f5_, h6_⟩ := guardP_elim h4_
      obtain ⟨⟨k0, c1⟩, f7_, h8_⟩ := pullD_elim h6_
      replace f7_ := readD_elim f7_
      by_cases b9_ : (k0 : Int) > (6 : Int)
      · have h10_ := (if_pos b9_).symm.trans h8_
        obtain rfl := Option.some.inj h10_
        exact ⟨step_pc 3000 (bT 2 []) [.list k0 c1] [c_d b1_, c_f f3_, c_f f5_, c_f f7_, c_d b9_] [] _ rfl (by kernel_rfl) (by kernel_rfl) (by kernel_rfl) (by kernel_rfl) (by kernel_rfl) (by kernel_rfl), by kernel_rfl, by kernel_rfl⟩
      · have h10_ := (if_neg b9_).symm.trans h8_
        obtain rfl := Option.some.inj h10_
        exact ⟨step_pc 3000 (bT 1 (bF 1 [])) [.list k0 c1] [c_d b1_, c_f f3_, c_f f5_, c_f f7_, c_n b9_] [] _ rfl (by kernel_rfl) (by kernel_rfl) (by kernel_rfl) (by kernel_rfl) (by kernel_rfl) (by kernel_rfl), trivial⟩
    · have h2_ := (if_neg b1_).symm.trans h0
      obtain rfl := Option.some.inj h2_
      exact ⟨step_pc 3000 (bF 1 []) [] [c_n b1_] [] _ rfl (by kernel_rfl) (by kernel_rfl) (by kernel_rfl) (by kernel_rfl) (by kernel_rfl) (by kernel_rfl), by kernel_rfl, by kernel_rfl⟩
  | .next (_ + 1) _, _, h => by cases h
  | .out _ _, _, h => by cases h
theorem few_L4_go (a : Nat) (b : List D) (k : Nat) (c : List D) (ip pr : Int)  {q : Nat} {ds : List D} {j : Nat} {es : List D} (h : runR (few_L4_S a b k c ip pr) (.next q ds) = some (.out j es)) : Runs (ctx [31] few_sp) Tabs few_L4_A (stateOf (few_L4_gs a b k c ip pr (.next q ds))) (stateOf (few_L4_gs a b k c ip pr (.out j es))) (few_L4_ax (.out j es)) ∧ (nxtOf (few_L4_gs a b k c ip pr (.out j es)), lowGS (few_L4_gs a b k c ip pr (.out j es))) = (few_L4_A.nx, few_L4_A.low) :=
  runs_of' (good true _ _) few_L4_ok (ax := few_L4_ax) (fun _ _ => rfl) (fun _ _ => axOf_end _) (few_L4_S_ok a b k c ip pr) h
theorem few_L4_in0 (a : Nat) (b : List D) (k : Nat) (c : List D) (ip pr : Int)  {es : List D} (h : runR (few_L4_S a b k c ip pr) (.next 0 [.one (.int .i64 ((0 : Int)))]) = some (.out 0 es)) : LoopC (loopAt Tryd.prog 31 0) (few_L4_E a b k c ip pr) 4 noFrame few_x4_0 es :=
  have r := few_L4_go a b k c ip pr h
  loopin_as rfl (loop_in (l := few_L4_A) (E := (few_L4_E a b k c ip pr)) (S := stateOf (few_L4_gs a b k c ip pr (.next 0 [.one (.int .i64 ((0 : Int)))]))) (ns := nsOf (few_L4_gs a b k c ip pr (.next 0 [.one (.int .i64 ((0 : Int)))]))) few_L4_ok r.1 r.2 (by kernel_rfl) (by kernel_rfl) (by kernel_rfl) (by kernel_rfl))
theorem few_L4_in1 (a : Nat) (b : List D) (k : Nat) (c : List D) (ip pr : Int)  {es : List D} (h : runR (few_L4_S a b k c ip pr) (.next 0 [.one (.int .i64 ((0 : Int)))]) = some (.out 1 es)) : LoopC (loopAt Tryd.prog 31 0) (few_L4_E a b k c ip pr) 4 noFrame few_x4_1 es :=
  have r := few_L4_go a b k c ip pr h
  loopin_as rfl (loop_in (l := few_L4_A) (E := (few_L4_E a b k c ip pr)) (S := stateOf (few_L4_gs a b k c ip pr (.next 0 [.one (.int .i64 ((0 : Int)))]))) (ns := nsOf (few_L4_gs a b k c ip pr (.next 0 [.one (.int .i64 ((0 : Int)))]))) few_L4_ok r.1 r.2 (by kernel_rfl) (by kernel_rfl) (by kernel_rfl) (by kernel_rfl))
def few_M (a : Nat) (b : List D) (k : Nat) (c : List D) (ip pr : Int) : Option D := (if (a : Int) > (8 : Int) then some (.one (.bool false)) else (if (k : Int) > (7 : Int) then some (.one (.bool false)) else bindL (runR (few_L4_S a b k c ip pr) (.next 0 [.one (.int .i64 ((0 : Int)))])) fun j ds => (if j = 0 then pullD (some (.tup ds)) (fun _ => ()) (fun _ => .tup []) fun _ => (bindL (runR (few_L9_S a b k c ip pr) (.next 0 [.one (.int .i64 ((0 : Int)))])) fun j ds => (if j = 0 then pullD (some (.tup ds)) (fun _ => ()) (fun _ => .tup []) fun _ => (some (.one (.bool true))) else if j = 1 then pullD (α := Bool) (some (.tup ds)) (fun d => ((D.vb (D.at d 0)))) (fun l0 => .tup [.one (.bool l0)]) fun l0 => (some (.one (.bool l0))) else none)) else if j = 1 then pullD (α := Bool) (some (.tup ds)) (fun d => ((D.vb (D.at d 0)))) (fun l1 => .tup [.one (.bool l1)]) fun l1 => (some (.one (.bool l1))) else none)))
theorem few_M_ok (a : Nat) (b : List D) (k : Nat) (c : List D) (ip pr : Int) {r : D} (h : few_M a b k c ip pr = some r) : Con 31 [.agg [.list a b], .agg [.list k c, .one (.int .i64 ip), .one (.int .i64 pr)]] r := by
  unfold few_M at h
  by_cases b1_ : (a : Int) > (8 : Int)
  · have h2_ := (if_pos b1_).symm.trans h
    obtain rfl := Option.some.inj h2_
    exact con_pc (op := true) (I := [31]) (sp := few_sp) 3000 (bT 6 []) [] [c_d b1_, c_d b1_, c_d b1_, c_d b1_, c_d b1_, c_T] [] (by kernel_rfl)
  · have h2_ := (if_neg b1_).symm.trans h
    by_cases b3_ : (k : Int) > (7 : Int)
    · have h4_ := (if_pos b3_).symm.trans h2_
      obtain rfl := Option.some.inj h4_
      exact con_pc (op := true) (I := [31]) (sp := few_sp) 3000 (bF 5 (bT 1 [])) [] [c_n b1_, c_n b1_, c_n b1_, c_n b1_, c_n b1_, c_d b3_] [] (by kernel_rfl)
    · have h4_ := (if_neg b3_).symm.trans h2_
      obtain ⟨j, ds, e5_, h6_⟩ := bindL_elim h4_
      by_cases j7_ : j = 0
      · have h10_ := (if_pos j7_).symm.trans h6_
        clear h6_
        subst j7_
        obtain ⟨⟨⟩, e8_, h11_⟩ := pullD_elim h10_
        clear h10_
        obtain rfl := tup_inj e8_
        have k9_ := few_L4_in0 a b k c ip pr e5_
        obtain ⟨j, ds, e12_, h13_⟩ := bindL_elim h11_
        by_cases j14_ : j = 0
        · have h17_ := (if_pos j14_).symm.trans h13_
          clear h13_
          subst j14_
          obtain ⟨⟨⟩, e15_, h18_⟩ := pullD_elim h17_
          clear h17_
          obtain rfl := tup_inj e15_
          have k16_ := few_L9_in0 a b k c ip pr e12_
          obtain rfl := Option.some.inj h18_
          exact con_pc (op := true) (I := [31]) (sp := few_sp) 3000 (bF 6 []) [.tup [.one (.int .i64 (Int.ofNat 0))], .tup [.one (.int .i64 (Int.ofNat 0))]] [c_n b1_, c_n b1_, c_n b1_, c_n b1_, c_n b1_, c_n b3_] [k_l k9_ [] [.tup [.one (.int .i64 (Int.ofNat 0))], .tup [.one (.int .i64 (Int.ofNat 0))]] [.tup [.one (.int .i64 (Int.ofNat 0))]], k_l k16_ [] [.tup [.one (.int .i64 (Int.ofNat 0))]] []] (by kernel_rfl)
        have h19_ := (if_neg j14_).symm.trans h13_
        clear h13_
        by_cases j20_ : j = 1
        · have h23_ := (if_pos j20_).symm.trans h19_
          clear h19_
          subst j20_
          obtain ⟨l0, e21_, h24_⟩ := pullD_elim h23_
          clear h23_
          obtain rfl := tup_inj e21_
          have k22_ := few_L9_in1 a b k c ip pr e12_
          obtain rfl := Option.some.inj h24_
          exact con_pc (op := true) (I := [31]) (sp := few_sp) 3000 (bF 6 []) [.tup [.one (.int .i64 (Int.ofNat 0))], .tup [.one (.int .i64 (Int.ofNat 1)), .one (.bool l0)]] [c_n b1_, c_n b1_, c_n b1_, c_n b1_, c_n b1_, c_n b3_] [k_l k9_ [] [.tup [.one (.int .i64 (Int.ofNat 0))], .tup [.one (.int .i64 (Int.ofNat 1)), .one (.bool l0)]] [.tup [.one (.int .i64 (Int.ofNat 1)), .one (.bool l0)]], k_l k22_ [] [.tup [.one (.int .i64 (Int.ofNat 1)), .one (.bool l0)]] []] (by kernel_rfl)
        have h25_ := (if_neg j20_).symm.trans h19_
        clear h19_
        cases h25_
      have h26_ := (if_neg j7_).symm.trans h6_
      clear h6_
      by_cases j27_ : j = 1
      · have h30_ := (if_pos j27_).symm.trans h26_
        clear h26_
        subst j27_
        obtain ⟨l1, e28_, h31_⟩ := pullD_elim h30_
        clear h30_
        obtain rfl := tup_inj e28_
        have k29_ := few_L4_in1 a b k c ip pr e5_
        obtain rfl := Option.some.inj h31_
        exact con_pc (op := true) (I := [31]) (sp := few_sp) 3000 (bF 6 []) [.tup [.one (.int .i64 (Int.ofNat 1)), .one (.bool l1)]] [c_n b1_, c_n b1_, c_n b1_, c_n b1_, c_n b1_, c_n b3_] [k_l k29_ [] [.tup [.one (.int .i64 (Int.ofNat 1)), .one (.bool l1)]] []] (by kernel_rfl)
      have h32_ := (if_neg j27_).symm.trans h26_
      clear h26_
      cases h32_
def m_31 (ds : List D) : Option D := pullD (α := Nat × (List D) × Nat × (List D) × Int × Int) (some (.tup ds)) (fun d => ((D.ln (D.at (D.at d 0) 0)), (D.lc (D.at (D.at d 0) 0)), (D.ln (D.at (D.at d 1) 0)), (D.lc (D.at (D.at d 1) 0)), (D.vi (D.at (D.at d 1) 1)), (D.vi (D.at (D.at d 1) 2)))) (fun (a, b, k, c, ip, pr) => .tup [.agg [.list a b], .agg [.list k c, .one (.int .i64 ip), .one (.int .i64 pr)]]) fun (a, b, k, c, ip, pr) => few_M a b k c ip pr
theorem m_31_ok {ds : List D} {r : D} (h : m_31 ds = some r) : Con 31 ds r := by
  unfold m_31 at h
  obtain ⟨⟨a, b, k, c, ip, pr⟩, e0, h0⟩ := pullD_elim h
  obtain rfl := tup_inj e0
  exact few_M_ok a b k c ip pr h0
theorem m_31_eq (a : Nat) (b : List D) (k : Nat) (c : List D) (ip pr : Int) : m_31 [.agg [.list a b], .agg [.list k c, .one (.int .i64 ip), .one (.int .i64 pr)]] = few_M a b k c ip pr := pullD_some (a, b, k, c, ip, pr) rfl rfl
def law6_sp : List LSpec := []
def law6_M (k : Nat) (c : List D) (ip pr slot : Int) : Option D := pullD (α := Bool) (m_30 []) (fun d => ((D.vb d))) (fun r0 => .one (.bool r0)) fun r0 => ((if r0 = false then some (.one (.bool false)) else pullD (α := Bool) (m_31 [.agg [.list 0 []], .agg [.list k c, .one (.int .i64 ip), .one (.int .i64 pr)]]) (fun d => ((D.vb d))) (fun r1 => .one (.bool r1)) fun r1 => ((if r1 = false then some (.one (.bool true)) else pullD (α := Nat × (List D) × Int × Int) (m_33 [.agg [.list k c, .one (.int .i64 ip), .one (.int .i64 pr)]]) (fun d => ((D.ln (D.at d 0)), (D.lc (D.at d 0)), (D.vi (D.at d 1)), (D.vi (D.at d 2)))) (fun (k2, c3, r4, r5) => .agg [.list k2 c3, .one (.int .i64 r4), .one (.int .i64 r5)]) fun (k2, c3, r4, r5) => (pullD (α := Int × Int) (m_32 [.agg [.list k2 c3, .one (.int .i64 r4), .one (.int .i64 r5)]]) (fun d => ((D.vi (D.at d 0)), (D.vi (D.at d 1)))) (fun (r6, r7) => .tup [.one (.int .i64 r6), .one (.int .i64 r7)]) fun (r6, r7) => (pullD (α := Nat × (List D) × Int × Int) (m_33 [.agg [.list k c, .one (.int .i64 ip), .one (.int .i64 pr)]]) (fun d => ((D.ln (D.at d 0)), (D.lc (D.at d 0)), (D.vi (D.at d 1)), (D.vi (D.at d 2)))) (fun (k8, c9, r10, r11) => .agg [.list k8 c9, .one (.int .i64 r10), .one (.int .i64 r11)]) fun (k8, c9, r10, r11) => (pullD (α := Nat × (List D) × Int) (m_34 [.agg [.list k8 c9, .one (.int .i64 r10), .one (.int .i64 r11)], .one (.int .i64 slot)]) (fun d => ((D.ln (D.at d 0)), (D.lc (D.at d 0)), (D.vi (D.at d 1)))) (fun (k12, c13, r14) => .tup [.list k12 c13, .one (.int .i64 r14)]) fun (k12, c13, r14) => (pullD (α := Int × Int) (m_35 [.agg [.list k c, .one (.int .i64 ip), .one (.int .i64 pr)]]) (fun d => ((D.vi (D.at d 0)), (D.vi (D.at d 1)))) (fun (r15, r16) => .tup [.one (.int .i64 r15), .one (.int .i64 r16)]) fun (r15, r16) => ((if r7 ≠ r16 then some (.one (.bool false)) else (if r6 ≠ r15 then some (.one (.bool false)) else (if r16 = (0 : Int) then pullD (α := Bool) (m_22 [.one (.int .i64 slot), .one (.int .i64 (0 : Int)), .one (.int .i64 (IntKind.i64.wrap ((k : Int) - (1 : Int))))]) (fun d => ((D.vb d))) (fun r17 => .one (.bool r17)) fun r17 => ((if r17 = false then (if r14 = (6 : Int) then some (.one (.bool ((k12 : Int) == (0 : Int)))) else some (.one (.bool false))) else (if r16 ≠ (0 : Int) then (if r14 = r16 then some (.one (.bool ((k12 : Int) == (0 : Int)))) else some (.one (.bool false))) else (if r14 = (0 : Int) then pullD (α := Nat × (List D)) (m_37 [.agg [.list k c, .one (.int .i64 ip), .one (.int .i64 pr)], .one (.int .i64 slot)]) (fun d => ((D.ln d), (D.lc d))) (fun (k18, c19) => .list k18 c19) fun (k18, c19) => (pullD (α := Bool) (m_36 [.list k12 c13, .list k18 c19]) (fun d => ((D.vb d))) (fun r20 => .one (.bool r20)) fun r20 => (some (.one (.bool r20)))) else some (.one (.bool false)))))) else (if r16 ≠ (0 : Int) then (if r14 = r16 then some (.one (.bool ((k12 : Int) == (0 : Int)))) else some (.one (.bool false))) else (if r14 = (0 : Int) then pullD (α := Nat × (List D)) (m_37 [.agg [.list k c, .one (.int .i64 ip), .one (.int .i64 pr)], .one (.int .i64 slot)]) (fun d => ((D.ln d), (D.lc d))) (fun (k21, c22) => .list k21 c22) fun (k21, c22) => (pullD (α := Bool) (m_36 [.list k12 c13, .list k21 c22]) (fun d => ((D.vb d))) (fun r23 => .one (.bool r23)) fun r23 => (some (.one (.bool r23)))) else some (.one (.bool false))))))))))))))))
theorem law6_M_ok (k : Nat) (c : List D) (ip pr slot : Int) {r : D} (h : law6_M k c ip pr slot = some r) : Con 6 [.agg [.list k c, .one (.int .i64 ip), .one (.int .i64 pr)], .one (.int .i64 slot)] r := by
  unfold law6_M at h
  obtain ⟨r0, f1_, h2_⟩ := pullD_elim h
  replace f1_ := m_30_ok f1_
  by_cases b3_ : r0 = false
  · have h4_ := (if_pos b3_).symm.trans h2_
    obtain rfl := Option.some.inj h4_
    exact con_pc (op := true) (I := [6]) (sp := law6_sp) 3000 (bT 1 []) [.one (.bool r0)] [c_no b3_] [k_c f1_] (by kernel_rfl)
  · have h4_ := (if_neg b3_).symm.trans h2_
    have b5_ : r0 = true := by first | exact b3_ | simpa using b3_
    obtain ⟨r1, f6_, h7_⟩ := pullD_elim h4_
    replace f6_ := m_31_ok f6_
    by_cases b8_ : r1 = false
    · have h9_ := (if_pos b8_).symm.trans h7_
      obtain rfl := Option.some.inj h9_
      exact con_pc (op := true) (I := [6]) (sp := law6_sp) 3000 (bF 1 (bT 1 [])) [.one (.bool r0), .one (.bool r1)] [c_nn b5_, c_no b8_] [k_c f1_, k_c f6_] (by kernel_rfl)
    · have h9_ := (if_neg b8_).symm.trans h7_
      have b10_ : r1 = true := by first | exact b8_ | simpa using b8_
      obtain ⟨⟨k2, c3, r4, r5⟩, f11_, h12_⟩ := pullD_elim h9_
      replace f11_ := m_33_ok f11_
      obtain ⟨⟨r6, r7⟩, f13_, h14_⟩ := pullD_elim h12_
      replace f13_ := m_32_ok f13_
      obtain ⟨⟨k8, c9, r10, r11⟩, f15_, h16_⟩ := pullD_elim h14_
      replace f15_ := m_33_ok f15_
      obtain ⟨⟨k12, c13, r14⟩, f17_, h18_⟩ := pullD_elim h16_
      replace f17_ := m_34_ok f17_
      obtain ⟨⟨r15, r16⟩, f19_, h20_⟩ := pullD_elim h18_
      replace f19_ := m_35_ok f19_
      by_cases b21_ : r7 ≠ r16
      · have h22_ := (if_pos b21_).symm.trans h20_
        obtain rfl := Option.some.inj h22_
        exact con_pc (op := true) (I := [6]) (sp := law6_sp) 3000 (bF 2 (bT 5 [])) [.one (.bool r0), .one (.bool r1), .agg [.list k2 c3, .one (.int .i64 r4), .one (.int .i64 r5)], .tup [.one (.int .i64 r6), .one (.int .i64 r7)], .agg [.list k8 c9, .one (.int .i64 r10), .one (.int .i64 r11)], .tup [.list k12 c13, .one (.int .i64 r14)], .tup [.one (.int .i64 r15), .one (.int .i64 r16)]] [c_nn b5_, c_nn b10_, c_b b21_, c_b b21_, c_b b21_, c_b b21_, c_T] [k_c f1_, k_c f6_, k_c f11_, k_c f13_, k_c f15_, k_c f17_, k_c f19_] (by kernel_rfl)
      · have h22_ := (if_neg b21_).symm.trans h20_
        have b23_ : r7 = r16 := by first | exact b21_ | simpa using b21_
        by_cases b24_ : r6 ≠ r15
        · have h25_ := (if_pos b24_).symm.trans h22_
          obtain rfl := Option.some.inj h25_
          exact con_pc (op := true) (I := [6]) (sp := law6_sp) 3000 (bF 6 (bT 1 [])) [.one (.bool r0), .one (.bool r1), .agg [.list k2 c3, .one (.int .i64 r4), .one (.int .i64 r5)], .tup [.one (.int .i64 r6), .one (.int .i64 r7)], .agg [.list k8 c9, .one (.int .i64 r10), .one (.int .i64 r11)], .tup [.list k12 c13, .one (.int .i64 r14)], .tup [.one (.int .i64 r15), .one (.int .i64 r16)]] [c_nn b5_, c_nn b10_, c_bn b23_, c_bn b23_, c_bn b23_, c_bn b23_, c_b b24_] [k_c f1_, k_c f6_, k_c f11_, k_c f13_, k_c f15_, k_c f17_, k_c f19_] (by kernel_rfl)
        · have h25_ := (if_neg b24_).symm.trans h22_
          have b26_ : r6 = r15 := by first | exact b24_ | simpa using b24_
          by_cases b27_ : r16 = (0 : Int)
          · have h28_ := (if_pos b27_).symm.trans h25_
            obtain ⟨r17, f29_, h30_⟩ := pullD_elim h28_
            replace f29_ := m_22_ok f29_
            by_cases b31_ : r17 = false
            · have h32_ := (if_pos b31_).symm.trans h30_
              by_cases b33_ : r14 = (6 : Int)
              · have h34_ := (if_pos b33_).symm.trans h32_
                obtain rfl := Option.some.inj h34_
                exact con_pc (op := true) (I := [6]) (sp := law6_sp) 3000 (bF 7 (bT 14 [])) [.one (.bool r0), .one (.bool r1), .agg [.list k2 c3, .one (.int .i64 r4), .one (.int .i64 r5)], .tup [.one (.int .i64 r6), .one (.int .i64 r7)], .agg [.list k8 c9, .one (.int .i64 r10), .one (.int .i64 r11)], .tup [.list k12 c13, .one (.int .i64 r14)], .tup [.one (.int .i64 r15), .one (.int .i64 r16)], .one (.bool r17)] [c_nn b5_, c_nn b10_, c_bn b23_, c_bn b23_, c_bn b23_, c_bn b23_, c_bn b26_, c_e b27_, c_e b27_, c_e b27_, c_e b27_, c_e b27_, c_e b27_, c_e b27_, c_e b27_, c_no b31_, c_T, c_e b33_, c_e b33_, c_e b33_, c_e b33_] [k_c f1_, k_c f6_, k_c f11_, k_c f13_, k_c f15_, k_c f17_, k_c f19_, k_c f29_] (by kernel_rfl)
              · have h34_ := (if_neg b33_).symm.trans h32_
                have b35_ : r14 ≠ (6 : Int) := by first | exact b33_ | simpa using b33_
                obtain rfl := Option.some.inj h34_
                exact con_pc (op := true) (I := [6]) (sp := law6_sp) 3000 (bF 7 (bT 10 (bF 4 []))) [.one (.bool r0), .one (.bool r1), .agg [.list k2 c3, .one (.int .i64 r4), .one (.int .i64 r5)], .tup [.one (.int .i64 r6), .one (.int .i64 r7)], .agg [.list k8 c9, .one (.int .i64 r10), .one (.int .i64 r11)], .tup [.list k12 c13, .one (.int .i64 r14)], .tup [.one (.int .i64 r15), .one (.int .i64 r16)], .one (.bool r17)] [c_nn b5_, c_nn b10_, c_bn b23_, c_bn b23_, c_bn b23_, c_bn b23_, c_bn b26_, c_e b27_, c_e b27_, c_e b27_, c_e b27_, c_e b27_, c_e b27_, c_e b27_, c_e b27_, c_no b31_, c_T, c_en b35_, c_en b35_, c_en b35_, c_en b35_] [k_c f1_, k_c f6_, k_c f11_, k_c f13_, k_c f15_, k_c f17_, k_c f19_, k_c f29_] (by kernel_rfl)
            · have h32_ := (if_neg b31_).symm.trans h30_
              have b36_ : r17 = true := by first | exact b31_ | simpa using b31_
              by_cases b37_ : r16 ≠ (0 : Int)
              · have h38_ := (if_pos b37_).symm.trans h32_
                by_cases b39_ : r14 = r16
                · have h40_ := (if_pos b39_).symm.trans h38_
                  obtain rfl := Option.some.inj h40_
                  exact con_pc (op := true) (I := [6]) (sp := law6_sp) 3000 (bF 7 (bT 8 (bF 1 (bT 5 [])))) [.one (.bool r0), .one (.bool r1), .agg [.list k2 c3, .one (.int .i64 r4), .one (.int .i64 r5)], .tup [.one (.int .i64 r6), .one (.int .i64 r7)], .agg [.list k8 c9, .one (.int .i64 r10), .one (.int .i64 r11)], .tup [.list k12 c13, .one (.int .i64 r14)], .tup [.one (.int .i64 r15), .one (.int .i64 r16)], .one (.bool r17)] [c_nn b5_, c_nn b10_, c_bn b23_, c_bn b23_, c_bn b23_, c_bn b23_, c_bn b26_, c_e b27_, c_e b27_, c_e b27_, c_e b27_, c_e b27_, c_e b27_, c_e b27_, c_e b27_, c_nn b36_, c_b b37_, c_e b39_, c_e b39_, c_e b39_, c_e b39_] [k_c f1_, k_c f6_, k_c f11_, k_c f13_, k_c f15_, k_c f17_, k_c f19_, k_c f29_] (by kernel_rfl)
                · have h40_ := (if_neg b39_).symm.trans h38_
                  have b41_ : r14 ≠ r16 := by first | exact b39_ | simpa using b39_
                  obtain rfl := Option.some.inj h40_
                  exact con_pc (op := true) (I := [6]) (sp := law6_sp) 3000 (bF 7 (bT 8 (bF 1 (bT 1 (bF 4 []))))) [.one (.bool r0), .one (.bool r1), .agg [.list k2 c3, .one (.int .i64 r4), .one (.int .i64 r5)], .tup [.one (.int .i64 r6), .one (.int .i64 r7)], .agg [.list k8 c9, .one (.int .i64 r10), .one (.int .i64 r11)], .tup [.list k12 c13, .one (.int .i64 r14)], .tup [.one (.int .i64 r15), .one (.int .i64 r16)], .one (.bool r17)] [c_nn b5_, c_nn b10_, c_bn b23_, c_bn b23_, c_bn b23_, c_bn b23_, c_bn b26_, c_e b27_, c_e b27_, c_e b27_, c_e b27_, c_e b27_, c_e b27_, c_e b27_, c_e b27_, c_nn b36_, c_b b37_, c_en b41_, c_en b41_, c_en b41_, c_en b41_] [k_c f1_, k_c f6_, k_c f11_, k_c f13_, k_c f15_, k_c f17_, k_c f19_, k_c f29_] (by kernel_rfl)
              · have h38_ := (if_neg b37_).symm.trans h32_
                have b42_ : r16 = (0 : Int) := by first | exact b37_ | simpa using b37_
                by_cases b43_ : r14 = (0 : Int)
                · have h44_ := (if_pos b43_).symm.trans h38_
                  obtain ⟨⟨k18, c19⟩, f45_, h46_⟩ := pullD_elim h44_
                  replace f45_ := m_37_ok f45_
                  obtain ⟨r20, f47_, h48_⟩ := pullD_elim h46_
                  replace f47_ := m_36_ok f47_
                  obtain rfl := Option.some.inj h48_
                  exact con_pc (op := true) (I := [6]) (sp := law6_sp) 3000 (bF 7 (bT 8 (bF 2 (bT 6 [])))) [.one (.bool r0), .one (.bool r1), .agg [.list k2 c3, .one (.int .i64 r4), .one (.int .i64 r5)], .tup [.one (.int .i64 r6), .one (.int .i64 r7)], .agg [.list k8 c9, .one (.int .i64 r10), .one (.int .i64 r11)], .tup [.list k12 c13, .one (.int .i64 r14)], .tup [.one (.int .i64 r15), .one (.int .i64 r16)], .one (.bool r17), .list k18 c19, .one (.bool r20)] [c_nn b5_, c_nn b10_, c_bn b23_, c_bn b23_, c_bn b23_, c_bn b23_, c_bn b26_, c_e b42_, c_e b42_, c_e b42_, c_e b42_, c_e b42_, c_e b42_, c_e b42_, c_e b42_, c_nn b36_, c_bn b42_, c_e b43_, c_e b43_, c_e b43_, c_e b43_, c_e b43_, c_e b43_] [k_c f1_, k_c f6_, k_c f11_, k_c f13_, k_c f15_, k_c f17_, k_c f19_, k_c f29_, k_c f45_, k_c f47_] (by kernel_rfl)
                · have h44_ := (if_neg b43_).symm.trans h38_
                  have b49_ : r14 ≠ (0 : Int) := by first | exact b43_ | simpa using b43_
                  obtain rfl := Option.some.inj h44_
                  exact con_pc (op := true) (I := [6]) (sp := law6_sp) 3000 (bF 7 (bT 8 (bF 8 []))) [.one (.bool r0), .one (.bool r1), .agg [.list k2 c3, .one (.int .i64 r4), .one (.int .i64 r5)], .tup [.one (.int .i64 r6), .one (.int .i64 r7)], .agg [.list k8 c9, .one (.int .i64 r10), .one (.int .i64 r11)], .tup [.list k12 c13, .one (.int .i64 r14)], .tup [.one (.int .i64 r15), .one (.int .i64 r16)], .one (.bool r17)] [c_nn b5_, c_nn b10_, c_bn b23_, c_bn b23_, c_bn b23_, c_bn b23_, c_bn b26_, c_e b42_, c_e b42_, c_e b42_, c_e b42_, c_e b42_, c_e b42_, c_e b42_, c_e b42_, c_nn b36_, c_bn b42_, c_en b49_, c_en b49_, c_en b49_, c_en b49_, c_en b49_, c_en b49_] [k_c f1_, k_c f6_, k_c f11_, k_c f13_, k_c f15_, k_c f17_, k_c f19_, k_c f29_] (by kernel_rfl)
          · have h28_ := (if_neg b27_).symm.trans h25_
            have b50_ : r16 ≠ (0 : Int) := by first | exact b27_ | simpa using b27_
            by_cases b51_ : r16 ≠ (0 : Int)
            · have h52_ := (if_pos b51_).symm.trans h28_
              by_cases b53_ : r14 = r16
              · have h54_ := (if_pos b53_).symm.trans h52_
                obtain rfl := Option.some.inj h54_
                exact con_pc (op := true) (I := [6]) (sp := law6_sp) 3000 (bF 16 (bT 5 [])) [.one (.bool r0), .one (.bool r1), .agg [.list k2 c3, .one (.int .i64 r4), .one (.int .i64 r5)], .tup [.one (.int .i64 r6), .one (.int .i64 r7)], .agg [.list k8 c9, .one (.int .i64 r10), .one (.int .i64 r11)], .tup [.list k12 c13, .one (.int .i64 r14)], .tup [.one (.int .i64 r15), .one (.int .i64 r16)]] [c_nn b5_, c_nn b10_, c_bn b23_, c_bn b23_, c_bn b23_, c_bn b23_, c_bn b26_, c_en b51_, c_en b51_, c_en b51_, c_en b51_, c_en b51_, c_en b51_, c_en b51_, c_en b51_, c_F, c_b b51_, c_e b53_, c_e b53_, c_e b53_, c_e b53_] [k_c f1_, k_c f6_, k_c f11_, k_c f13_, k_c f15_, k_c f17_, k_c f19_] (by kernel_rfl)
              · have h54_ := (if_neg b53_).symm.trans h52_
                have b55_ : r14 ≠ r16 := by first | exact b53_ | simpa using b53_
                obtain rfl := Option.some.inj h54_
                exact con_pc (op := true) (I := [6]) (sp := law6_sp) 3000 (bF 16 (bT 1 (bF 4 []))) [.one (.bool r0), .one (.bool r1), .agg [.list k2 c3, .one (.int .i64 r4), .one (.int .i64 r5)], .tup [.one (.int .i64 r6), .one (.int .i64 r7)], .agg [.list k8 c9, .one (.int .i64 r10), .one (.int .i64 r11)], .tup [.list k12 c13, .one (.int .i64 r14)], .tup [.one (.int .i64 r15), .one (.int .i64 r16)]] [c_nn b5_, c_nn b10_, c_bn b23_, c_bn b23_, c_bn b23_, c_bn b23_, c_bn b26_, c_en b51_, c_en b51_, c_en b51_, c_en b51_, c_en b51_, c_en b51_, c_en b51_, c_en b51_, c_F, c_b b51_, c_en b55_, c_en b55_, c_en b55_, c_en b55_] [k_c f1_, k_c f6_, k_c f11_, k_c f13_, k_c f15_, k_c f17_, k_c f19_] (by kernel_rfl)
            · have h52_ := (if_neg b51_).symm.trans h28_
              have b56_ : r16 = (0 : Int) := by first | exact b51_ | simpa using b51_
              by_cases b57_ : r14 = (0 : Int)
              · have h58_ := (if_pos b57_).symm.trans h52_
                obtain ⟨⟨k21, c22⟩, f59_, h60_⟩ := pullD_elim h58_
                replace f59_ := m_37_ok f59_
                obtain ⟨r23, f61_, h62_⟩ := pullD_elim h60_
                replace f61_ := m_36_ok f61_
                obtain rfl := Option.some.inj h62_
                exact con_pc (op := true) (I := [6]) (sp := law6_sp) 3000 (bF 17 (bT 6 [])) [.one (.bool r0), .one (.bool r1), .agg [.list k2 c3, .one (.int .i64 r4), .one (.int .i64 r5)], .tup [.one (.int .i64 r6), .one (.int .i64 r7)], .agg [.list k8 c9, .one (.int .i64 r10), .one (.int .i64 r11)], .tup [.list k12 c13, .one (.int .i64 r14)], .tup [.one (.int .i64 r15), .one (.int .i64 r16)], .list k21 c22, .one (.bool r23)] [c_nn b5_, c_nn b10_, c_bn b23_, c_bn b23_, c_bn b23_, c_bn b23_, c_bn b26_, c_en b50_, c_en b50_, c_en b50_, c_en b50_, c_en b50_, c_en b50_, c_en b50_, c_en b50_, c_F, c_bn b56_, c_e b57_, c_e b57_, c_e b57_, c_e b57_, c_e b57_, c_e b57_] [k_c f1_, k_c f6_, k_c f11_, k_c f13_, k_c f15_, k_c f17_, k_c f19_, k_c f59_, k_c f61_] (by kernel_rfl)
              · have h58_ := (if_neg b57_).symm.trans h52_
                have b63_ : r14 ≠ (0 : Int) := by first | exact b57_ | simpa using b57_
                obtain rfl := Option.some.inj h58_
                exact con_pc (op := true) (I := [6]) (sp := law6_sp) 3000 (bF 23 []) [.one (.bool r0), .one (.bool r1), .agg [.list k2 c3, .one (.int .i64 r4), .one (.int .i64 r5)], .tup [.one (.int .i64 r6), .one (.int .i64 r7)], .agg [.list k8 c9, .one (.int .i64 r10), .one (.int .i64 r11)], .tup [.list k12 c13, .one (.int .i64 r14)], .tup [.one (.int .i64 r15), .one (.int .i64 r16)]] [c_nn b5_, c_nn b10_, c_bn b23_, c_bn b23_, c_bn b23_, c_bn b23_, c_bn b26_, c_en b50_, c_en b50_, c_en b50_, c_en b50_, c_en b50_, c_en b50_, c_en b50_, c_en b50_, c_F, c_bn b56_, c_en b63_, c_en b63_, c_en b63_, c_en b63_, c_en b63_, c_en b63_] [k_c f1_, k_c f6_, k_c f11_, k_c f13_, k_c f15_, k_c f17_, k_c f19_] (by kernel_rfl)
def m_6 (ds : List D) : Option D := pullD (α := Nat × (List D) × Int × Int × Int) (some (.tup ds)) (fun d => ((D.ln (D.at (D.at d 0) 0)), (D.lc (D.at (D.at d 0) 0)), (D.vi (D.at (D.at d 0) 1)), (D.vi (D.at (D.at d 0) 2)), (D.vi (D.at d 1)))) (fun (k, c, ip, pr, slot) => .tup [.agg [.list k c, .one (.int .i64 ip), .one (.int .i64 pr)], .one (.int .i64 slot)]) fun (k, c, ip, pr, slot) => law6_M k c ip pr slot
theorem m_6_ok {ds : List D} {r : D} (h : m_6 ds = some r) : Con 6 ds r := by
  unfold m_6 at h
  obtain ⟨⟨k, c, ip, pr, slot⟩, e0, h0⟩ := pullD_elim h
  obtain rfl := tup_inj e0
  exact law6_M_ok k c ip pr slot h0
theorem m_6_eq (k : Nat) (c : List D) (ip pr slot : Int) : m_6 [.agg [.list k c, .one (.int .i64 ip), .one (.int .i64 pr)], .one (.int .i64 slot)] = law6_M k c ip pr slot := pullD_some (k, c, ip, pr, slot) rfl rfl
end
end Go.Proofs.YtegjgcogikjemaaDoor
