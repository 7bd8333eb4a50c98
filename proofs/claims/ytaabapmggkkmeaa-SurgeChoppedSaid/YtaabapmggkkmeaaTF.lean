/- For any impulse, time, fall and time of reading, valid or not, the law SurgeChopped of the program answers true, and its arguments read as they did. CONDITIONS: none. -/
import Derived.Test.YtaabapmggkkmeaaTD
import Derived.Test.YtaabapmggkkmeaaTE
import Derived.Test.YtaabapmggkkmeaaTA
set_option linter.unusedVariables false
set_option linter.unusedSimpArgs false
set_option linter.unusedSectionVars false
set_option linter.unnecessarySimpa false
namespace Go.Proofs.Ytaabapmggkkmeaa
open Go.Ev Go.RowKit
set_option maxRecDepth 100000
set_option maxHeartbeats 8000000
set_option linter.all false
noncomputable section
def law5_x18_0 : LExit := ⟨some 0, [], (6 :: (14 :: (15 :: (16 :: (List.range' 88 41)))))⟩
def law5_x18_1 : LExit := ⟨none, [.val 6], (14 :: (15 :: (16 :: (List.range' 88 41))))⟩
def law5_sp : List LSpec := [⟨5, 18, [law5_x18_0, law5_x18_1]⟩]
def law5_L18_E (ka : Nat) (ca : List D) (at0 at1 : Int) (tm : Int) (x0 : Bool) (x1 : Bool) (x2 : Int) (x3 : Nat) (x4 : List D) (x5 : Nat) (x6 : List D) (x7 : Int) (x8 : Bool) (x9 : Int) (x10 : Nat) (x11 : List D) (x12 : Int) (x13 : Int) (x14 : Nat) (x15 : List D) (x16 : Int) (x17 : Int) (x18 : Int) (x19 : Int) (x20 : Int) : List AV × AHeap := ([.agg [.dsl 0], .pure (.agg #[.int .i64 at0, .int .i64 at1]), .pure (.int .i64 tm), .ptr 1 0, .ptr 2 0, .pure (.tuple #[]), .pure (.bool false), .ptr 5 0, .pure (.int .i64 x7), .pure (.int .i64 x12), .pure (.int .i64 x13), .pure (.int .i64 (IntKind.i64.wrap (at0 + at1))), .ptr 8 0, .pure (.int .i64 x18), .pure (.int .i64 (0 : Int)), .pure (.tuple #[]), .pure (.tuple #[]), .pure (.tuple #[]), .pure (.tuple #[]), .pure (.bool x0), .pure (.bool !x0), .agg [.dsl 0], .pure (.bool x1), .pure (.bool !x1), .pure (.bool !x1), .agg [.dsl 0], .pure (.int .i64 x2), .pure (.bool (x2 != (0 : Int))), .pure (.bool (x2 != (0 : Int))), .tuple [.agg [.dsl 4], .pure (.int .i64 x7)], .agg [.dsl 0], .agg [.dsl 3], .ptr 2 0, .pure (.int .i64 at0), .ptr 2 1, .pure (.int .i64 at1), .tuple [.agg [.dsl 4], .pure (.int .i64 x7)], .agg [.dsl 4], .pure (.int .i64 x7), .pure (.int .i64 x7), .pure (.bool (x7 != (0 : Int))), .pure (.tuple #[]), .pure (.tuple #[]), .pure (.tuple #[]), .pure (.tuple #[]), .pure (.tuple #[]), .pure (.tuple #[]), .pure (.tuple #[]), .pure (.tuple #[]), .pure (.tuple #[]), .pure (.tuple #[]), .pure (.tuple #[]), .pure (.tuple #[]), .agg [.dsl 4], .pure (.bool x8), .pure (.bool !x8), .pure (.bool !x8), .agg [.dsl 4], .pure (.int .i64 x9), .pure (.bool (x9 != (0 : Int))), .pure (.bool (x9 != (0 : Int))), .pure (.tuple #[.int .i64 x12, .int .i64 x13]), .agg [.dsl 4], .agg [.dsl 6], .pure (.tuple #[.int .i64 x12, .int .i64 x13]), .pure (.int .i64 x12), .pure (.int .i64 x13), .pure (.int .i64 x13), .pure (.bool (x13 != (0 : Int))), .ptr 2 0, .pure (.int .i64 at0), .ptr 2 1, .pure (.int .i64 at1), .pure (.int .i64 (IntKind.i64.wrap (at0 + at1))), .pure (.tuple #[.agg #[.int .i64 x16, .int .i64 x17], .int .i64 x18]), .agg [.dsl 4], .agg [.dsl 7], .pure (.int .i64 (IntKind.i64.wrap (at0 + at1))), .pure (.tuple #[.agg #[.int .i64 x16, .int .i64 x17], .int .i64 x18]), .pure (.agg #[.int .i64 x16, .int .i64 x17]), .pure (.int .i64 x18), .pure (.int .i64 x18), .pure (.bool (x18 != (0 : Int))), .pure (.bool (x18 != (0 : Int))), .pure (.agg #[.int .i64 x16, .int .i64 x17]), .pure (.agg #[.int .i64 x19, .int .i64 x20]), .pure (.bool !(x16 == x19 && (x17 == x20 && true))), .pure (.bool !(x16 == x19 && (x17 == x20 && true))), .pure (.tuple #[]), .pure (.tuple #[]), .pure (.tuple #[]), .pure (.tuple #[]), .pure (.tuple #[]), .pure (.tuple #[]), .pure (.tuple #[]), .pure (.tuple #[]), .pure (.tuple #[]), .pure (.tuple #[]), .pure (.tuple #[]), .pure (.tuple #[]), .pure (.tuple #[]), .pure (.tuple #[]), .pure (.tuple #[]), .pure (.tuple #[]), .pure (.tuple #[]), .pure (.tuple #[]), .pure (.tuple #[]), .pure (.tuple #[]), .pure (.tuple #[]), .pure (.tuple #[]), .pure (.tuple #[]), .pure (.tuple #[]), .pure (.tuple #[]), .pure (.tuple #[]), .pure (.tuple #[]), .pure (.tuple #[]), .pure (.tuple #[]), .pure (.tuple #[]), .pure (.tuple #[]), .pure (.tuple #[]), .pure (.tuple #[]), .pure (.tuple #[]), .pure (.tuple #[]), .pure (.tuple #[]), .pure (.tuple #[]), .pure (.tuple #[]), .pure (.tuple #[]), .pure (.tuple #[]), .pure (.tuple #[]), .pure (.tuple #[]), .pure (.tuple #[]), .pure (.tuple #[]), .pure (.tuple #[]), .pure (.tuple #[]), .pure (.tuple #[]), .pure (.tuple #[]), .pure (.tuple #[]), .pure (.tuple #[]), .pure (.tuple #[]), .pure (.tuple #[]), .pure (.tuple #[]), .pure (.tuple #[]), .pure (.tuple #[]), .pure (.tuple #[]), .pure (.tuple #[]), .pure (.tuple #[]), .pure (.tuple #[])], [(8, { cells := [.pure (.int .i64 x16), .pure (.int .i64 x17)], opn := none, kind := .cells }), (7, { cells := [], opn := none, kind := .deep x14 x15 }), (6, { cells := [], opn := none, kind := .deep x10 x11 }), (3, { cells := [], opn := none, kind := .deep x3 x4 }), (4, { cells := [], opn := none, kind := .deep x5 x6 }), (5, { cells := [.dsl 4], opn := none, kind := .cells }), (2, { cells := [.pure (.int .i64 at0), .pure (.int .i64 at1)], opn := none, kind := .cells }), (1, { cells := [.dsl 0], opn := none, kind := .cells }), (0, { cells := [], opn := none, kind := .deep ka ca })])
def law5_L18_A : LoopAt := ⟨5, loopAt Try.prog 5 0, 9, 54, 9, noFrame⟩
theorem law5_L18_ok : (law5_L18_A).OK := ⟨by show 9 ≤ 54; decide, by show 9 ≤ 9; decide, by kernel_rfl, rfl⟩
def law5_L18_gs (ka : Nat) (ca : List D) (at0 at1 : Int) (tm : Int) (x0 : Bool) (x1 : Bool) (x2 : Int) (x3 : Nat) (x4 : List D) (x5 : Nat) (x6 : List D) (x7 : Int) (x8 : Bool) (x9 : Int) (x10 : Nat) (x11 : List D) (x12 : Int) (x13 : Int) (x14 : Nat) (x15 : List D) (x16 : Int) (x17 : Int) (x18 : Int) (x19 : Int) (x20 : Int) : Go.Ev.Rd → Option GS
  | .next 0 ds => ghost [.val 14] (6 :: (15 :: (16 :: (List.range' 88 41)))) (law5_L18_E ka ca at0 at1 tm x0 x1 x2 x3 x4 x5 x6 x7 x8 x9 x10 x11 x12 x13 x14 x15 x16 x17 x18 x19 x20).1 (law5_L18_E ka ca at0 at1 tm x0 x1 x2 x3 x4 x5 x6 x7 x8 x9 x10 x11 x12 x13 x14 x15 x16 x17 x18 x19 x20).2 9 ds
  | .out 0 ds => ghost law5_x18_0.live law5_x18_0.junk (law5_L18_E ka ca at0 at1 tm x0 x1 x2 x3 x4 x5 x6 x7 x8 x9 x10 x11 x12 x13 x14 x15 x16 x17 x18 x19 x20).1 (law5_L18_E ka ca at0 at1 tm x0 x1 x2 x3 x4 x5 x6 x7 x8 x9 x10 x11 x12 x13 x14 x15 x16 x17 x18 x19 x20).2 9 ds
  | .out 1 ds => ghost law5_x18_1.live law5_x18_1.junk (law5_L18_E ka ca at0 at1 tm x0 x1 x2 x3 x4 x5 x6 x7 x8 x9 x10 x11 x12 x13 x14 x15 x16 x17 x18 x19 x20).1 (law5_L18_E ka ca at0 at1 tm x0 x1 x2 x3 x4 x5 x6 x7 x8 x9 x10 x11 x12 x13 x14 x15 x16 x17 x18 x19 x20).2 9 ds
  | _ => none
def law5_L18_ex : Nat → Option Nat
  | 0 => law5_x18_0.ex
  | 1 => law5_x18_1.ex
  | _ => none
def law5_L18_ax : Go.Ev.Rd → AX
  | .next _ _ => .normal
  | .out j _ => axOf (law5_L18_ex j)
def law5_L18_S0 (ka : Nat) (ca : List D) (at0 at1 : Int) (tm : Int) (x0 : Bool) (x1 : Bool) (x2 : Int) (x3 : Nat) (x4 : List D) (x5 : Nat) (x6 : List D) (x7 : Int) (x8 : Bool) (x9 : Int) (x10 : Nat) (x11 : List D) (x12 : Int) (x13 : Int) (x14 : Nat) (x15 : List D) (x16 : Int) (x17 : Int) (x18 : Int) (x19 : Int) (x20 : Int) (ds : List D) : Option Go.Ev.Rd := pullD (α := Int) (some (.tup ds)) (fun d => ((D.vi (D.at d 0)))) (fun s14 => .tup [iD s14]) fun s14 => ((if s14 < (ka : Int) then guardP ((0 : Int) ≤ s14 ∧ s14.toNat < ka) (guardP (0 < ka) (pullD (α := Int) (readD ca (s14.toNat * 2 + 0) 1 false) (fun d => ((D.vi d))) (fun v0 => iD v0) fun v0 => ((if v0 < at0 then pullD (α := Nat × (List D)) (m_9 [.agg [.list x5 x6]]) (fun d => ((D.ln (D.at d 0)), (D.lc (D.at d 0)))) (fun (k1, c2) => .agg [.list k1 c2]) fun (k1, c2) => (pullD (α := Int) (readD ca (s14.toNat * 2 + 0) 1 false) (fun d => ((D.vi d))) (fun v3 => iD v3) fun v3 => (pullD (α := Int × Int × Int) (m_10 [.agg [.list k1 c2], iD v3]) (fun d => ((D.vi (D.at (D.at d 0) 0)), (D.vi (D.at (D.at d 0) 1)), (D.vi (D.at d 1)))) (fun (r4, r5, r6) => .tup [.agg [iD r4, iD r5], iD r6]) fun (r4, r5, r6) => ((if r6 ≠ (0 : Int) then some (.out 1 [.one (.bool false)]) else pullD (α := Int) (readD ca (s14.toNat * 2 + 1) 1 false) (fun d => ((D.vi d))) (fun v7 => iD v7) fun v7 => (pullD (α := Int × Int) (m_24 [iD v7]) (fun d => ((D.vi (D.at d 0)), (D.vi (D.at d 1)))) (fun (r8, r9) => .agg [iD r8, iD r9]) fun (r8, r9) => ((if (!(r4 == r8 && (r5 == r9 && true))) = true then some (.out 1 [.one (.bool false)]) else some (.next 0 [iD (IntKind.i64.wrap (s14 + (1 : Int)))])))))))) else some (.next 0 [iD (IntKind.i64.wrap (s14 + (1 : Int)))]))))) else some (.out 0 [])))
def law5_L18_S (ka : Nat) (ca : List D) (at0 at1 : Int) (tm : Int) (x0 : Bool) (x1 : Bool) (x2 : Int) (x3 : Nat) (x4 : List D) (x5 : Nat) (x6 : List D) (x7 : Int) (x8 : Bool) (x9 : Int) (x10 : Nat) (x11 : List D) (x12 : Int) (x13 : Int) (x14 : Nat) (x15 : List D) (x16 : Int) (x17 : Int) (x18 : Int) (x19 : Int) (x20 : Int) : Go.Ev.Rd → Option Go.Ev.Rd
  | .next 0 ds => law5_L18_S0 ka ca at0 at1 tm x0 x1 x2 x3 x4 x5 x6 x7 x8 x9 x10 x11 x12 x13 x14 x15 x16 x17 x18 x19 x20 ds
  | _ => none
theorem law5_L18_S_0 (ka : Nat) (ca : List D) (at0 at1 : Int) (tm : Int) (x0 : Bool) (x1 : Bool) (x2 : Int) (x3 : Nat) (x4 : List D) (x5 : Nat) (x6 : List D) (x7 : Int) (x8 : Bool) (x9 : Int) (x10 : Nat) (x11 : List D) (x12 : Int) (x13 : Int) (x14 : Nat) (x15 : List D) (x16 : Int) (x17 : Int) (x18 : Int) (x19 : Int) (x20 : Int) (ds : List D) : law5_L18_S ka ca at0 at1 tm x0 x1 x2 x3 x4 x5 x6 x7 x8 x9 x10 x11 x12 x13 x14 x15 x16 x17 x18 x19 x20 (.next 0 ds) = law5_L18_S0 ka ca at0 at1 tm x0 x1 x2 x3 x4 x5 x6 x7 x8 x9 x10 x11 x12 x13 x14 x15 x16 x17 x18 x19 x20 ds := rfl
theorem law5_L18_S_ok (ka : Nat) (ca : List D) (at0 at1 : Int) (tm : Int) (x0 : Bool) (x1 : Bool) (x2 : Int) (x3 : Nat) (x4 : List D) (x5 : Nat) (x6 : List D) (x7 : Int) (x8 : Bool) (x9 : Int) (x10 : Nat) (x11 : List D) (x12 : Int) (x13 : Int) (x14 : Nat) (x15 : List D) (x16 : Int) (x17 : Int) (x18 : Int) (x19 : Int) (x20 : Int) : ∀ s_ t_, law5_L18_S ka ca at0 at1 tm x0 x1 x2 x3 x4 x5 x6 x7 x8 x9 x10 x11 x12 x13 x14 x15 x16 x17 x18 x19 x20 s_ = some t_ → Step (ctx [5] law5_sp) Tabs law5_L18_A (stateOf (law5_L18_gs ka ca at0 at1 tm x0 x1 x2 x3 x4 x5 x6 x7 x8 x9 x10 x11 x12 x13 x14 x15 x16 x17 x18 x19 x20 s_)) (stateOf (law5_L18_gs ka ca at0 at1 tm x0 x1 x2 x3 x4 x5 x6 x7 x8 x9 x10 x11 x12 x13 x14 x15 x16 x17 x18 x19 x20 t_)) (law5_L18_ax t_) ∧ EndOK law5_L18_A.nx law5_L18_A.low (law5_L18_gs ka ca at0 at1 tm x0 x1 x2 x3 x4 x5 x6 x7 x8 x9 x10 x11 x12 x13 x14 x15 x16 x17 x18 x19 x20) t_
  | .next 0 ds, t_, h => by
    have h_ : law5_L18_S0 ka ca at0 at1 tm x0 x1 x2 x3 x4 x5 x6 x7 x8 x9 x10 x11 x12 x13 x14 x15 x16 x17 x18 x19 x20 ds = some t_ := h
    clear h
    unfold law5_L18_S0 at h_
    obtain ⟨s14, e0, h0⟩ := pullD_elim h_
    clear h_
    obtain rfl := tup_inj e0
    by_cases b1_ : s14 < (ka : Int)
    · have h2_ := (if_pos b1_).symm.trans h0
      obtain ⟨f3_, h4_⟩ := guardP_elim h2_
      obtain ⟨f5_, h6_⟩ := guardP_elim h4_
      obtain ⟨v0, f7_, h8_⟩ := pullD_elim h6_
      replace f7_ := readD_elim f7_
      by_cases b9_ : v0 < at0
      · have h10_ := (if_pos b9_).symm.trans h8_
        obtain ⟨⟨k1, c2⟩, f11_, h12_⟩ := pullD_elim h10_
        replace f11_ := m_9_ok f11_
        obtain ⟨v3, f13_, h14_⟩ := pullD_elim h12_
        replace f13_ := readD_elim f13_
        obtain ⟨⟨r4, r5, r6⟩, f15_, h16_⟩ := pullD_elim h14_
        replace f15_ := m_10_ok f15_
        by_cases b17_ : r6 ≠ (0 : Int)
        · have h18_ := (if_pos b17_).symm.trans h16_
          obtain rfl := Option.some.inj h18_
          exact ⟨step_pc 3000 (bT 13 []) [iD v0, .agg [.list k1 c2], iD v3, .tup [.agg [iD r4, iD r5], iD r6]] [c_d b1_, c_f f3_, c_f f5_, c_f f7_, c_d b9_, c_f f3_, c_f f5_, c_f f13_, c_b b17_, c_b b17_, c_b b17_, c_b b17_, c_b b17_, c_b b17_, c_b b17_, c_b b17_, c_b b17_, c_b b17_, c_T] [k_c f11_, k_c f15_] _ rfl (by kernel_rfl) (by kernel_rfl) (by kernel_rfl) (by kernel_rfl) (by kernel_rfl) (by kernel_rfl), by kernel_rfl, by kernel_rfl⟩
        have h18_ := (if_neg b17_).symm.trans h16_
        have b19_ : r6 = (0 : Int) := by first | exact b17_ | simpa using b17_
        obtain ⟨v7, f20_, h21_⟩ := pullD_elim h18_
        replace f20_ := readD_elim f20_
        obtain ⟨⟨r8, r9⟩, f22_, h23_⟩ := pullD_elim h21_
        replace f22_ := m_24_ok f22_
        by_cases b24_ : (!(r4 == r8 && (r5 == r9 && true))) = true
        · have h25_ := (if_pos b24_).symm.trans h23_
          obtain rfl := Option.some.inj h25_
          exact ⟨step_pc 3000 (bT 2 (bF 10 (bT 1 []))) [iD v0, .agg [.list k1 c2], iD v3, .tup [.agg [iD r4, iD r5], iD r6], iD v7, .agg [iD r8, iD r9]] [c_d b1_, c_f f3_, c_f f5_, c_f f7_, c_d b9_, c_f f3_, c_f f5_, c_f f13_, c_bn b19_, c_bn b19_, c_bn b19_, c_bn b19_, c_bn b19_, c_f f3_, c_bn b19_, c_f f5_, c_bn b19_, c_f f20_, c_bn b19_, c_bn b19_, c_bn b19_, c_q b24_] [k_c f11_, k_c f15_, k_c f22_] _ rfl (by kernel_rfl) (by kernel_rfl) (by kernel_rfl) (by kernel_rfl) (by kernel_rfl) (by kernel_rfl), by kernel_rfl, by kernel_rfl⟩
        have h25_ := (if_neg b24_).symm.trans h23_
        have b26_ : (!(r4 == r8 && (r5 == r9 && true))) = false := by first | exact b24_ | simpa using b24_
        obtain rfl := Option.some.inj h25_
        exact ⟨step_pc 3000 (bT 2 (bF 11 [])) [iD v0, .agg [.list k1 c2], iD v3, .tup [.agg [iD r4, iD r5], iD r6], iD v7, .agg [iD r8, iD r9]] [c_d b1_, c_f f3_, c_f f5_, c_f f7_, c_d b9_, c_f f3_, c_f f5_, c_f f13_, c_bn b19_, c_bn b19_, c_bn b19_, c_bn b19_, c_bn b19_, c_f f3_, c_bn b19_, c_f f5_, c_bn b19_, c_f f20_, c_bn b19_, c_bn b19_, c_bn b19_, c_q b26_] [k_c f11_, k_c f15_, k_c f22_] _ rfl (by kernel_rfl) (by kernel_rfl) (by kernel_rfl) (by kernel_rfl) (by kernel_rfl) (by kernel_rfl), trivial⟩
      have h10_ := (if_neg b9_).symm.trans h8_
      obtain rfl := Option.some.inj h10_
      exact ⟨step_pc 3000 (bT 1 (bF 1 [])) [iD v0] [c_d b1_, c_f f3_, c_f f5_, c_f f7_, c_n b9_] [] _ rfl (by kernel_rfl) (by kernel_rfl) (by kernel_rfl) (by kernel_rfl) (by kernel_rfl) (by kernel_rfl), trivial⟩
    have h2_ := (if_neg b1_).symm.trans h0
    obtain rfl := Option.some.inj h2_
    exact ⟨step_pc 3000 (bF 1 []) [] [c_n b1_] [] _ rfl (by kernel_rfl) (by kernel_rfl) (by kernel_rfl) (by kernel_rfl) (by kernel_rfl) (by kernel_rfl), by kernel_rfl, by kernel_rfl⟩
  | .next (_ + 1) _, _, h => by cases h
  | .out _ _, _, h => by cases h
theorem law5_L18_go (ka : Nat) (ca : List D) (at0 at1 : Int) (tm : Int) (x0 : Bool) (x1 : Bool) (x2 : Int) (x3 : Nat) (x4 : List D) (x5 : Nat) (x6 : List D) (x7 : Int) (x8 : Bool) (x9 : Int) (x10 : Nat) (x11 : List D) (x12 : Int) (x13 : Int) (x14 : Nat) (x15 : List D) (x16 : Int) (x17 : Int) (x18 : Int) (x19 : Int) (x20 : Int) {q : Nat} {ds : List D} {j : Nat} {es : List D} (h : runR (law5_L18_S ka ca at0 at1 tm x0 x1 x2 x3 x4 x5 x6 x7 x8 x9 x10 x11 x12 x13 x14 x15 x16 x17 x18 x19 x20) (.next q ds) = some (.out j es)) : Runs (ctx [5] law5_sp) Tabs law5_L18_A (stateOf (law5_L18_gs ka ca at0 at1 tm x0 x1 x2 x3 x4 x5 x6 x7 x8 x9 x10 x11 x12 x13 x14 x15 x16 x17 x18 x19 x20 (.next q ds))) (stateOf (law5_L18_gs ka ca at0 at1 tm x0 x1 x2 x3 x4 x5 x6 x7 x8 x9 x10 x11 x12 x13 x14 x15 x16 x17 x18 x19 x20 (.out j es))) (law5_L18_ax (.out j es)) ∧ (nxtOf (law5_L18_gs ka ca at0 at1 tm x0 x1 x2 x3 x4 x5 x6 x7 x8 x9 x10 x11 x12 x13 x14 x15 x16 x17 x18 x19 x20 (.out j es)), lowGS (law5_L18_gs ka ca at0 at1 tm x0 x1 x2 x3 x4 x5 x6 x7 x8 x9 x10 x11 x12 x13 x14 x15 x16 x17 x18 x19 x20 (.out j es))) = (law5_L18_A.nx, law5_L18_A.low) :=
  runs_of' (good true _ _) law5_L18_ok (ax := law5_L18_ax) (fun _ _ => rfl) (fun _ _ => axOf_end _) (law5_L18_S_ok ka ca at0 at1 tm x0 x1 x2 x3 x4 x5 x6 x7 x8 x9 x10 x11 x12 x13 x14 x15 x16 x17 x18 x19 x20) h
theorem law5_L18_in0 (ka : Nat) (ca : List D) (at0 at1 : Int) (tm : Int) (x0 : Bool) (x1 : Bool) (x2 : Int) (x3 : Nat) (x4 : List D) (x5 : Nat) (x6 : List D) (x7 : Int) (x8 : Bool) (x9 : Int) (x10 : Nat) (x11 : List D) (x12 : Int) (x13 : Int) (x14 : Nat) (x15 : List D) (x16 : Int) (x17 : Int) (x18 : Int) (x19 : Int) (x20 : Int) {es : List D} (h : runR (law5_L18_S ka ca at0 at1 tm x0 x1 x2 x3 x4 x5 x6 x7 x8 x9 x10 x11 x12 x13 x14 x15 x16 x17 x18 x19 x20) (.next 0 [iD ((0 : Int))]) = some (.out 0 es)) : LoopC (loopAt Try.prog 5 0) (law5_L18_E ka ca at0 at1 tm x0 x1 x2 x3 x4 x5 x6 x7 x8 x9 x10 x11 x12 x13 x14 x15 x16 x17 x18 x19 x20) 9 noFrame law5_x18_0 es :=
  have r := law5_L18_go ka ca at0 at1 tm x0 x1 x2 x3 x4 x5 x6 x7 x8 x9 x10 x11 x12 x13 x14 x15 x16 x17 x18 x19 x20 h
  loopin_as rfl (loop_in (l := law5_L18_A) (E := (law5_L18_E ka ca at0 at1 tm x0 x1 x2 x3 x4 x5 x6 x7 x8 x9 x10 x11 x12 x13 x14 x15 x16 x17 x18 x19 x20)) (S := stateOf (law5_L18_gs ka ca at0 at1 tm x0 x1 x2 x3 x4 x5 x6 x7 x8 x9 x10 x11 x12 x13 x14 x15 x16 x17 x18 x19 x20 (.next 0 [iD ((0 : Int))]))) (ns := nsOf (law5_L18_gs ka ca at0 at1 tm x0 x1 x2 x3 x4 x5 x6 x7 x8 x9 x10 x11 x12 x13 x14 x15 x16 x17 x18 x19 x20 (.next 0 [iD ((0 : Int))]))) law5_L18_ok r.1 r.2 (by kernel_rfl) (by kernel_rfl) (by kernel_rfl) (by kernel_rfl))
theorem law5_L18_in1 (ka : Nat) (ca : List D) (at0 at1 : Int) (tm : Int) (x0 : Bool) (x1 : Bool) (x2 : Int) (x3 : Nat) (x4 : List D) (x5 : Nat) (x6 : List D) (x7 : Int) (x8 : Bool) (x9 : Int) (x10 : Nat) (x11 : List D) (x12 : Int) (x13 : Int) (x14 : Nat) (x15 : List D) (x16 : Int) (x17 : Int) (x18 : Int) (x19 : Int) (x20 : Int) {es : List D} (h : runR (law5_L18_S ka ca at0 at1 tm x0 x1 x2 x3 x4 x5 x6 x7 x8 x9 x10 x11 x12 x13 x14 x15 x16 x17 x18 x19 x20) (.next 0 [iD ((0 : Int))]) = some (.out 1 es)) : LoopC (loopAt Try.prog 5 0) (law5_L18_E ka ca at0 at1 tm x0 x1 x2 x3 x4 x5 x6 x7 x8 x9 x10 x11 x12 x13 x14 x15 x16 x17 x18 x19 x20) 9 noFrame law5_x18_1 es :=
  have r := law5_L18_go ka ca at0 at1 tm x0 x1 x2 x3 x4 x5 x6 x7 x8 x9 x10 x11 x12 x13 x14 x15 x16 x17 x18 x19 x20 h
  loopin_as rfl (loop_in (l := law5_L18_A) (E := (law5_L18_E ka ca at0 at1 tm x0 x1 x2 x3 x4 x5 x6 x7 x8 x9 x10 x11 x12 x13 x14 x15 x16 x17 x18 x19 x20)) (S := stateOf (law5_L18_gs ka ca at0 at1 tm x0 x1 x2 x3 x4 x5 x6 x7 x8 x9 x10 x11 x12 x13 x14 x15 x16 x17 x18 x19 x20 (.next 0 [iD ((0 : Int))]))) (ns := nsOf (law5_L18_gs ka ca at0 at1 tm x0 x1 x2 x3 x4 x5 x6 x7 x8 x9 x10 x11 x12 x13 x14 x15 x16 x17 x18 x19 x20 (.next 0 [iD ((0 : Int))]))) law5_L18_ok r.1 r.2 (by kernel_rfl) (by kernel_rfl) (by kernel_rfl) (by kernel_rfl))
def law5_M (ka : Nat) (ca : List D) (at0 at1 : Int) (tm : Int) : Option D := pullD (α := Bool) (m_6 []) (fun d => ((D.vb d))) (fun r0 => .one (.bool r0)) fun r0 => ((if r0 = false then some (.one (.bool false)) else pullD (α := Bool) (m_7 [.agg [.list ka ca]]) (fun d => ((D.vb d))) (fun r1 => .one (.bool r1)) fun r1 => ((if r1 = false then some (.one (.bool true)) else pullD (α := Int) (m_22 [.agg [.list ka ca]]) (fun d => ((D.vi d))) (fun r2 => iD r2) fun r2 => ((if r2 ≠ (0 : Int) then some (.one (.bool true)) else pullD (α := Nat × (List D)) (m_9 [.agg [.list ka ca]]) (fun d => ((D.ln (D.at d 0)), (D.lc (D.at d 0)))) (fun (k3, c4) => .agg [.list k3 c4]) fun (k3, c4) => (pullD (α := Nat × (List D) × Int) (m_19 [.agg [.list k3 c4], iD at0, iD at1]) (fun d => ((D.ln (D.at (D.at d 0) 0)), (D.lc (D.at (D.at d 0) 0)), (D.vi (D.at d 1)))) (fun (k5, c6, r7) => .tup [.agg [.list k5 c6], iD r7]) fun (k5, c6, r7) => ((if r7 ≠ (0 : Int) then (if r7 = (2 : Int) then some (.one (.bool ((k5 : Int) == (0 : Int)))) else (if r7 = (8 : Int) then some (.one (.bool ((k5 : Int) == (0 : Int)))) else some (.one (.bool false)))) else pullD (α := Bool) (m_7 [.agg [.list k5 c6]]) (fun d => ((D.vb d))) (fun r8 => .one (.bool r8)) fun r8 => ((if r8 = false then some (.one (.bool false)) else pullD (α := Int) (m_22 [.agg [.list k5 c6]]) (fun d => ((D.vi d))) (fun r9 => iD r9) fun r9 => ((if r9 ≠ (0 : Int) then some (.one (.bool false)) else pullD (α := Nat × (List D)) (m_9 [.agg [.list k5 c6]]) (fun d => ((D.ln (D.at d 0)), (D.lc (D.at d 0)))) (fun (k10, c11) => .agg [.list k10 c11]) fun (k10, c11) => (pullD (α := Int × Int) (m_8 [.agg [.list k10 c11]]) (fun d => ((D.vi (D.at d 0)), (D.vi (D.at d 1)))) (fun (r12, r13) => .tup [iD r12, iD r13]) fun (r12, r13) => ((if r13 ≠ (0 : Int) then some (.one (.bool false)) else pullD (α := Nat × (List D)) (m_9 [.agg [.list k5 c6]]) (fun d => ((D.ln (D.at d 0)), (D.lc (D.at d 0)))) (fun (k14, c15) => .agg [.list k14 c15]) fun (k14, c15) => (pullD (α := Int × Int × Int) (m_10 [.agg [.list k14 c15], iD (IntKind.i64.wrap (at0 + at1))]) (fun d => ((D.vi (D.at (D.at d 0) 0)), (D.vi (D.at (D.at d 0) 1)), (D.vi (D.at d 1)))) (fun (r16, r17, r18) => .tup [.agg [iD r16, iD r17], iD r18]) fun (r16, r17, r18) => ((if r18 ≠ (0 : Int) then some (.one (.bool false)) else pullD (α := Int × Int) (m_24 [iD (0 : Int)]) (fun d => ((D.vi (D.at d 0)), (D.vi (D.at d 1)))) (fun (r19, r20) => .agg [iD r19, iD r20]) fun (r19, r20) => ((if (!(r16 == r19 && (r17 == r20 && true))) = true then some (.one (.bool false)) else bindL (runR (law5_L18_S ka ca at0 at1 tm r0 r1 r2 k3 c4 k5 c6 r7 r8 r9 k10 c11 r12 r13 k14 c15 r16 r17 r18 r19 r20) (.next 0 [iD ((0 : Int))])) fun j ds => (if j = 0 then pullD (some (.tup ds)) (fun _ => ()) (fun _ => .tup []) fun _ => (pullD (α := Bool) (m_14 [iD tm, iD (IntKind.i64.wrap (at0 + at1)), iD (1000000 : Int)]) (fun d => ((D.vb d))) (fun r21 => .one (.bool r21)) fun r21 => ((if r21 = false then some (.one (.bool true)) else pullD (α := Nat × (List D)) (m_9 [.agg [.list k5 c6]]) (fun d => ((D.ln (D.at d 0)), (D.lc (D.at d 0)))) (fun (k22, c23) => .agg [.list k22 c23]) fun (k22, c23) => (pullD (α := Int × Int × Int) (m_10 [.agg [.list k22 c23], iD tm]) (fun d => ((D.vi (D.at (D.at d 0) 0)), (D.vi (D.at (D.at d 0) 1)), (D.vi (D.at d 1)))) (fun (r24, r25, r26) => .tup [.agg [iD r24, iD r25], iD r26]) fun (r24, r25, r26) => ((if r26 = (0 : Int) then pullD (α := Int × Int) (m_24 [iD (0 : Int)]) (fun d => ((D.vi (D.at d 0)), (D.vi (D.at d 1)))) (fun (r27, r28) => .agg [iD r27, iD r28]) fun (r27, r28) => (some (.one (.bool (r24 == r27 && (r25 == r28 && true))))) else some (.one (.bool false)))))))) else if j = 1 then pullD (α := Bool) (some (.tup ds)) (fun d => ((D.vb (D.at d 0)))) (fun l29 => .tup [.one (.bool l29)]) fun l29 => (some (.one (.bool l29))) else none))))))))))))))))))))))
theorem law5_M_ok (ka : Nat) (ca : List D) (at0 at1 : Int) (tm : Int) {r : D} (h : law5_M ka ca at0 at1 tm = some r) : Con 5 [.agg [.list ka ca], .agg [iD at0, iD at1], iD tm] r := by
  unfold law5_M at h
  obtain ⟨r0, f1_, h2_⟩ := pullD_elim h
  replace f1_ := m_6_ok f1_
  by_cases b3_ : r0 = false
  · have h4_ := (if_pos b3_).symm.trans h2_
    obtain rfl := Option.some.inj h4_
    exact con_pc (op := true) (I := [5]) (sp := law5_sp) 3000 (bT 1 []) [.one (.bool r0)] [c_no b3_] [k_c f1_] (by kernel_rfl)
  have h4_ := (if_neg b3_).symm.trans h2_
  have b5_ : r0 = true := by first | exact b3_ | simpa using b3_
  obtain ⟨r1, f6_, h7_⟩ := pullD_elim h4_
  replace f6_ := m_7_ok f6_
  by_cases b8_ : r1 = false
  · have h9_ := (if_pos b8_).symm.trans h7_
    obtain rfl := Option.some.inj h9_
    exact con_pc (op := true) (I := [5]) (sp := law5_sp) 3000 (bF 1 (bT 5 [])) [.one (.bool r0), .one (.bool r1)] [c_nn b5_, c_no b8_, c_no b8_, c_no b8_, c_no b8_, c_T] [k_c f1_, k_c f6_] (by kernel_rfl)
  have h9_ := (if_neg b8_).symm.trans h7_
  have b10_ : r1 = true := by first | exact b8_ | simpa using b8_
  obtain ⟨r2, f11_, h12_⟩ := pullD_elim h9_
  replace f11_ := m_22_ok f11_
  by_cases b13_ : r2 ≠ (0 : Int)
  · have h14_ := (if_pos b13_).symm.trans h12_
    obtain rfl := Option.some.inj h14_
    exact con_pc (op := true) (I := [5]) (sp := law5_sp) 3000 (bF 5 (bT 1 [])) [.one (.bool r0), .one (.bool r1), iD r2] [c_nn b5_, c_nn b10_, c_nn b10_, c_nn b10_, c_nn b10_, c_b b13_] [k_c f1_, k_c f6_, k_c f11_] (by kernel_rfl)
  have h14_ := (if_neg b13_).symm.trans h12_
  have b15_ : r2 = (0 : Int) := by first | exact b13_ | simpa using b13_
  obtain ⟨⟨k3, c4⟩, f16_, h17_⟩ := pullD_elim h14_
  replace f16_ := m_9_ok f16_
  obtain ⟨⟨k5, c6, r7⟩, f18_, h19_⟩ := pullD_elim h17_
  replace f18_ := m_19_ok f18_
  by_cases b20_ : r7 ≠ (0 : Int)
  · have h21_ := (if_pos b20_).symm.trans h19_
    by_cases b22_ : r7 = (2 : Int)
    · have h23_ := (if_pos b22_).symm.trans h21_
      obtain rfl := Option.some.inj h23_
      exact con_pc (op := true) (I := [5]) (sp := law5_sp) 3000 (bF 6 (bT 9 [])) [.one (.bool r0), .one (.bool r1), iD r2, .agg [.list k3 c4], .tup [.agg [.list k5 c6], iD r7]] [c_nn b5_, c_nn b10_, c_nn b10_, c_nn b10_, c_nn b10_, c_bn b15_, c_b b20_, c_e b22_, c_e b22_, c_e b22_, c_T, c_T, c_T, c_T, c_T] [k_c f1_, k_c f6_, k_c f11_, k_c f16_, k_c f18_] (by kernel_rfl)
    have h23_ := (if_neg b22_).symm.trans h21_
    have b24_ : r7 ≠ (2 : Int) := by first | exact b22_ | simpa using b22_
    by_cases b25_ : r7 = (8 : Int)
    · have h26_ := (if_pos b25_).symm.trans h23_
      obtain rfl := Option.some.inj h26_
      exact con_pc (op := true) (I := [5]) (sp := law5_sp) 3000 (bF 6 (bT 1 (bF 3 (bT 5 [])))) [.one (.bool r0), .one (.bool r1), iD r2, .agg [.list k3 c4], .tup [.agg [.list k5 c6], iD r7]] [c_nn b5_, c_nn b10_, c_nn b10_, c_nn b10_, c_nn b10_, c_bn b15_, c_b b20_, c_en b24_, c_en b24_, c_en b24_, c_e b25_, c_e b25_, c_e b25_, c_e b25_, c_e b25_] [k_c f1_, k_c f6_, k_c f11_, k_c f16_, k_c f18_] (by kernel_rfl)
    have h26_ := (if_neg b25_).symm.trans h23_
    have b27_ : r7 ≠ (8 : Int) := by first | exact b25_ | simpa using b25_
    obtain rfl := Option.some.inj h26_
    exact con_pc (op := true) (I := [5]) (sp := law5_sp) 3000 (bF 6 (bT 1 (bF 8 []))) [.one (.bool r0), .one (.bool r1), iD r2, .agg [.list k3 c4], .tup [.agg [.list k5 c6], iD r7]] [c_nn b5_, c_nn b10_, c_nn b10_, c_nn b10_, c_nn b10_, c_bn b15_, c_b b20_, c_en b24_, c_en b24_, c_en b24_, c_en b27_, c_en b27_, c_en b27_, c_en b27_, c_en b27_] [k_c f1_, k_c f6_, k_c f11_, k_c f16_, k_c f18_] (by kernel_rfl)
  have h21_ := (if_neg b20_).symm.trans h19_
  have b28_ : r7 = (0 : Int) := by first | exact b20_ | simpa using b20_
  obtain ⟨r8, f29_, h30_⟩ := pullD_elim h21_
  replace f29_ := m_7_ok f29_
  by_cases b31_ : r8 = false
  · have h32_ := (if_pos b31_).symm.trans h30_
    obtain rfl := Option.some.inj h32_
    exact con_pc (op := true) (I := [5]) (sp := law5_sp) 3000 (bF 7 (bT 5 [])) [.one (.bool r0), .one (.bool r1), iD r2, .agg [.list k3 c4], .tup [.agg [.list k5 c6], iD r7], .one (.bool r8)] [c_nn b5_, c_nn b10_, c_nn b10_, c_nn b10_, c_nn b10_, c_bn b15_, c_bn b28_, c_no b31_, c_no b31_, c_no b31_, c_no b31_, c_T] [k_c f1_, k_c f6_, k_c f11_, k_c f16_, k_c f18_, k_c f29_] (by kernel_rfl)
  have h32_ := (if_neg b31_).symm.trans h30_
  have b33_ : r8 = true := by first | exact b31_ | simpa using b31_
  obtain ⟨r9, f34_, h35_⟩ := pullD_elim h32_
  replace f34_ := m_22_ok f34_
  by_cases b36_ : r9 ≠ (0 : Int)
  · have h37_ := (if_pos b36_).symm.trans h35_
    obtain rfl := Option.some.inj h37_
    exact con_pc (op := true) (I := [5]) (sp := law5_sp) 3000 (bF 11 (bT 1 [])) [.one (.bool r0), .one (.bool r1), iD r2, .agg [.list k3 c4], .tup [.agg [.list k5 c6], iD r7], .one (.bool r8), iD r9] [c_nn b5_, c_nn b10_, c_nn b10_, c_nn b10_, c_nn b10_, c_bn b15_, c_bn b28_, c_nn b33_, c_nn b33_, c_nn b33_, c_nn b33_, c_b b36_] [k_c f1_, k_c f6_, k_c f11_, k_c f16_, k_c f18_, k_c f29_, k_c f34_] (by kernel_rfl)
  have h37_ := (if_neg b36_).symm.trans h35_
  have b38_ : r9 = (0 : Int) := by first | exact b36_ | simpa using b36_
  obtain ⟨⟨k10, c11⟩, f39_, h40_⟩ := pullD_elim h37_
  replace f39_ := m_9_ok f39_
  obtain ⟨⟨r12, r13⟩, f41_, h42_⟩ := pullD_elim h40_
  replace f41_ := m_8_ok f41_
  by_cases b43_ : r13 ≠ (0 : Int)
  · have h44_ := (if_pos b43_).symm.trans h42_
    obtain rfl := Option.some.inj h44_
    exact con_pc (op := true) (I := [5]) (sp := law5_sp) 3000 (bF 12 (bT 1 [])) [.one (.bool r0), .one (.bool r1), iD r2, .agg [.list k3 c4], .tup [.agg [.list k5 c6], iD r7], .one (.bool r8), iD r9, .agg [.list k10 c11], .tup [iD r12, iD r13]] [c_nn b5_, c_nn b10_, c_nn b10_, c_nn b10_, c_nn b10_, c_bn b15_, c_bn b28_, c_nn b33_, c_nn b33_, c_nn b33_, c_nn b33_, c_bn b38_, c_b b43_] [k_c f1_, k_c f6_, k_c f11_, k_c f16_, k_c f18_, k_c f29_, k_c f34_, k_c f39_, k_c f41_] (by kernel_rfl)
  have h44_ := (if_neg b43_).symm.trans h42_
  have b45_ : r13 = (0 : Int) := by first | exact b43_ | simpa using b43_
  obtain ⟨⟨k14, c15⟩, f46_, h47_⟩ := pullD_elim h44_
  replace f46_ := m_9_ok f46_
  obtain ⟨⟨r16, r17, r18⟩, f48_, h49_⟩ := pullD_elim h47_
  replace f48_ := m_10_ok f48_
  by_cases b50_ : r18 ≠ (0 : Int)
  · have h51_ := (if_pos b50_).symm.trans h49_
    obtain rfl := Option.some.inj h51_
    exact con_pc (op := true) (I := [5]) (sp := law5_sp) 3000 (bF 13 (bT 5 [])) [.one (.bool r0), .one (.bool r1), iD r2, .agg [.list k3 c4], .tup [.agg [.list k5 c6], iD r7], .one (.bool r8), iD r9, .agg [.list k10 c11], .tup [iD r12, iD r13], .agg [.list k14 c15], .tup [.agg [iD r16, iD r17], iD r18]] [c_nn b5_, c_nn b10_, c_nn b10_, c_nn b10_, c_nn b10_, c_bn b15_, c_bn b28_, c_nn b33_, c_nn b33_, c_nn b33_, c_nn b33_, c_bn b38_, c_bn b45_, c_b b50_, c_b b50_, c_b b50_, c_b b50_, c_T] [k_c f1_, k_c f6_, k_c f11_, k_c f16_, k_c f18_, k_c f29_, k_c f34_, k_c f39_, k_c f41_, k_c f46_, k_c f48_] (by kernel_rfl)
  have h51_ := (if_neg b50_).symm.trans h49_
  have b52_ : r18 = (0 : Int) := by first | exact b50_ | simpa using b50_
  obtain ⟨⟨r19, r20⟩, f53_, h54_⟩ := pullD_elim h51_
  replace f53_ := m_24_ok f53_
  by_cases b55_ : (!(r16 == r19 && (r17 == r20 && true))) = true
  · have h56_ := (if_pos b55_).symm.trans h54_
    obtain rfl := Option.some.inj h56_
    exact con_pc (op := true) (I := [5]) (sp := law5_sp) 3000 (bF 17 (bT 1 [])) [.one (.bool r0), .one (.bool r1), iD r2, .agg [.list k3 c4], .tup [.agg [.list k5 c6], iD r7], .one (.bool r8), iD r9, .agg [.list k10 c11], .tup [iD r12, iD r13], .agg [.list k14 c15], .tup [.agg [iD r16, iD r17], iD r18], .agg [iD r19, iD r20]] [c_nn b5_, c_nn b10_, c_nn b10_, c_nn b10_, c_nn b10_, c_bn b15_, c_bn b28_, c_nn b33_, c_nn b33_, c_nn b33_, c_nn b33_, c_bn b38_, c_bn b45_, c_bn b52_, c_bn b52_, c_bn b52_, c_bn b52_, c_q b55_] [k_c f1_, k_c f6_, k_c f11_, k_c f16_, k_c f18_, k_c f29_, k_c f34_, k_c f39_, k_c f41_, k_c f46_, k_c f48_, k_c f53_] (by kernel_rfl)
  have h56_ := (if_neg b55_).symm.trans h54_
  have b57_ : (!(r16 == r19 && (r17 == r20 && true))) = false := by first | exact b55_ | simpa using b55_
  obtain ⟨j, ds, e58_, h59_⟩ := bindL_elim h56_
  by_cases j60_ : j = 0
  · have h63_ := (if_pos j60_).symm.trans h59_
    clear h59_
    subst j60_
    obtain ⟨⟨⟩, e61_, h64_⟩ := pullD_elim h63_
    clear h63_
    obtain rfl := tup_inj e61_
    have k62_ := law5_L18_in0 ka ca at0 at1 tm r0 r1 r2 k3 c4 k5 c6 r7 r8 r9 k10 c11 r12 r13 k14 c15 r16 r17 r18 r19 r20 e58_
    obtain ⟨r21, f65_, h66_⟩ := pullD_elim h64_
    replace f65_ := m_14_ok f65_
    by_cases b67_ : r21 = false
    · have h68_ := (if_pos b67_).symm.trans h66_
      obtain rfl := Option.some.inj h68_
      exact con_pc (op := true) (I := [5]) (sp := law5_sp) 3000 (bF 18 (bT 1 [])) [.one (.bool r0), .one (.bool r1), iD r2, .agg [.list k3 c4], .tup [.agg [.list k5 c6], iD r7], .one (.bool r8), iD r9, .agg [.list k10 c11], .tup [iD r12, iD r13], .agg [.list k14 c15], .tup [.agg [iD r16, iD r17], iD r18], .agg [iD r19, iD r20], .tup [iD (Int.ofNat 0)], .one (.bool r21)] [c_nn b5_, c_nn b10_, c_nn b10_, c_nn b10_, c_nn b10_, c_bn b15_, c_bn b28_, c_nn b33_, c_nn b33_, c_nn b33_, c_nn b33_, c_bn b38_, c_bn b45_, c_bn b52_, c_bn b52_, c_bn b52_, c_bn b52_, c_q b57_, c_no b67_] [k_c f1_, k_c f6_, k_c f11_, k_c f16_, k_c f18_, k_c f29_, k_c f34_, k_c f39_, k_c f41_, k_c f46_, k_c f48_, k_c f53_, k_l k62_ (bT 1 []) [.tup [iD (Int.ofNat 0)], .one (.bool r21)] [.one (.bool r21)], k_c f65_] (by kernel_rfl)
    have h68_ := (if_neg b67_).symm.trans h66_
    have b69_ : r21 = true := by first | exact b67_ | simpa using b67_
    obtain ⟨⟨k22, c23⟩, f70_, h71_⟩ := pullD_elim h68_
    replace f70_ := m_9_ok f70_
    obtain ⟨⟨r24, r25, r26⟩, f72_, h73_⟩ := pullD_elim h71_
    replace f72_ := m_10_ok f72_
    by_cases b74_ : r26 = (0 : Int)
    · have h75_ := (if_pos b74_).symm.trans h73_
      obtain ⟨⟨r27, r28⟩, f76_, h77_⟩ := pullD_elim h75_
      replace f76_ := m_24_ok f76_
      obtain rfl := Option.some.inj h77_
      exact con_pc (op := true) (I := [5]) (sp := law5_sp) 3000 (bF 19 (bT 4 [])) [.one (.bool r0), .one (.bool r1), iD r2, .agg [.list k3 c4], .tup [.agg [.list k5 c6], iD r7], .one (.bool r8), iD r9, .agg [.list k10 c11], .tup [iD r12, iD r13], .agg [.list k14 c15], .tup [.agg [iD r16, iD r17], iD r18], .agg [iD r19, iD r20], .tup [iD (Int.ofNat 0)], .one (.bool r21), .agg [.list k22 c23], .tup [.agg [iD r24, iD r25], iD r26], .agg [iD r27, iD r28]] [c_nn b5_, c_nn b10_, c_nn b10_, c_nn b10_, c_nn b10_, c_bn b15_, c_bn b28_, c_nn b33_, c_nn b33_, c_nn b33_, c_nn b33_, c_bn b38_, c_bn b45_, c_bn b52_, c_bn b52_, c_bn b52_, c_bn b52_, c_q b57_, c_nn b69_, c_e b74_, c_e b74_, c_e b74_, c_e b74_] [k_c f1_, k_c f6_, k_c f11_, k_c f16_, k_c f18_, k_c f29_, k_c f34_, k_c f39_, k_c f41_, k_c f46_, k_c f48_, k_c f53_, k_l k62_ (bF 1 (bT 4 [])) [.tup [iD (Int.ofNat 0)], .one (.bool r21), .agg [.list k22 c23], .tup [.agg [iD r24, iD r25], iD r26], .agg [iD r27, iD r28]] [.one (.bool r21), .agg [.list k22 c23], .tup [.agg [iD r24, iD r25], iD r26], .agg [iD r27, iD r28]], k_c f65_, k_c f70_, k_c f72_, k_c f76_] (by kernel_rfl)
    have h75_ := (if_neg b74_).symm.trans h73_
    have b78_ : r26 ≠ (0 : Int) := by first | exact b74_ | simpa using b74_
    obtain rfl := Option.some.inj h75_
    exact con_pc (op := true) (I := [5]) (sp := law5_sp) 3000 (bF 23 []) [.one (.bool r0), .one (.bool r1), iD r2, .agg [.list k3 c4], .tup [.agg [.list k5 c6], iD r7], .one (.bool r8), iD r9, .agg [.list k10 c11], .tup [iD r12, iD r13], .agg [.list k14 c15], .tup [.agg [iD r16, iD r17], iD r18], .agg [iD r19, iD r20], .tup [iD (Int.ofNat 0)], .one (.bool r21), .agg [.list k22 c23], .tup [.agg [iD r24, iD r25], iD r26]] [c_nn b5_, c_nn b10_, c_nn b10_, c_nn b10_, c_nn b10_, c_bn b15_, c_bn b28_, c_nn b33_, c_nn b33_, c_nn b33_, c_nn b33_, c_bn b38_, c_bn b45_, c_bn b52_, c_bn b52_, c_bn b52_, c_bn b52_, c_q b57_, c_nn b69_, c_en b78_, c_en b78_, c_en b78_, c_en b78_] [k_c f1_, k_c f6_, k_c f11_, k_c f16_, k_c f18_, k_c f29_, k_c f34_, k_c f39_, k_c f41_, k_c f46_, k_c f48_, k_c f53_, k_l k62_ (bF 5 []) [.tup [iD (Int.ofNat 0)], .one (.bool r21), .agg [.list k22 c23], .tup [.agg [iD r24, iD r25], iD r26]] [.one (.bool r21), .agg [.list k22 c23], .tup [.agg [iD r24, iD r25], iD r26]], k_c f65_, k_c f70_, k_c f72_] (by kernel_rfl)
  have h79_ := (if_neg j60_).symm.trans h59_
  clear h59_
  by_cases j80_ : j = 1
  · have h83_ := (if_pos j80_).symm.trans h79_
    clear h79_
    subst j80_
    obtain ⟨l29, e81_, h84_⟩ := pullD_elim h83_
    clear h83_
    obtain rfl := tup_inj e81_
    have k82_ := law5_L18_in1 ka ca at0 at1 tm r0 r1 r2 k3 c4 k5 c6 r7 r8 r9 k10 c11 r12 r13 k14 c15 r16 r17 r18 r19 r20 e58_
    obtain rfl := Option.some.inj h84_
    exact con_pc (op := true) (I := [5]) (sp := law5_sp) 3000 (bF 18 []) [.one (.bool r0), .one (.bool r1), iD r2, .agg [.list k3 c4], .tup [.agg [.list k5 c6], iD r7], .one (.bool r8), iD r9, .agg [.list k10 c11], .tup [iD r12, iD r13], .agg [.list k14 c15], .tup [.agg [iD r16, iD r17], iD r18], .agg [iD r19, iD r20], .tup [iD (Int.ofNat 1), .one (.bool l29)]] [c_nn b5_, c_nn b10_, c_nn b10_, c_nn b10_, c_nn b10_, c_bn b15_, c_bn b28_, c_nn b33_, c_nn b33_, c_nn b33_, c_nn b33_, c_bn b38_, c_bn b45_, c_bn b52_, c_bn b52_, c_bn b52_, c_bn b52_, c_q b57_] [k_c f1_, k_c f6_, k_c f11_, k_c f16_, k_c f18_, k_c f29_, k_c f34_, k_c f39_, k_c f41_, k_c f46_, k_c f48_, k_c f53_, k_l k82_ [] [.tup [iD (Int.ofNat 1), .one (.bool l29)]] []] (by kernel_rfl)
  have h85_ := (if_neg j80_).symm.trans h79_
  clear h79_
  cases h85_
def m_5 (ds : List D) : Option D := pullD (α := Nat × (List D) × Int × Int × Int) (some (.tup ds)) (fun d => ((D.ln (D.at (D.at d 0) 0)), (D.lc (D.at (D.at d 0) 0)), (D.vi (D.at (D.at d 1) 0)), (D.vi (D.at (D.at d 1) 1)), (D.vi (D.at d 2)))) (fun (ka, ca, at0, at1, tm) => .tup [.agg [.list ka ca], .agg [iD at0, iD at1], iD tm]) fun (ka, ca, at0, at1, tm) => law5_M ka ca at0 at1 tm
theorem m_5_ok {ds : List D} {r : D} (h : m_5 ds = some r) : Con 5 ds r := by
  unfold m_5 at h
  obtain ⟨⟨ka, ca, at0, at1, tm⟩, e0, h0⟩ := pullD_elim h
  obtain rfl := tup_inj e0
  exact law5_M_ok ka ca at0 at1 tm h0
theorem m_5_eq (ka : Nat) (ca : List D) (at0 at1 : Int) (tm : Int) : m_5 [.agg [.list ka ca], .agg [iD at0, iD at1], iD tm] = law5_M ka ca at0 at1 tm := pullD_some (ka, ca, at0, at1, tm) rfl rfl
end
end Go.Proofs.Ytaabapmggkkmeaa
/- Impulses that are chopped: the law. -/
namespace Go.Proofs.Ytaabapmggkkmeaa
open Go.Ev Go.RowKit
set_option maxRecDepth 100000
section
variable {l : List (Int × Int)}
theorem foldP (l : List (Int × Int)) : D.agg [D.list l.length (cP l)] = .agg [lP l] := rfl
theorem pullP {β : Type} (k1 : Nat) (c1 : List D) (k : Nat × List D → Option β) : pullD (some (.agg [.list k1 c1])) (fun d => (D.ln (D.at d 0), D.lc (D.at d 0))) (fun (x, y) => .agg [.list x y]) k = k (k1, c1) := pullD_some (k1, c1) rfl rfl
theorem pullV {β : Type} (a b e : Int) (k : Int × Int × Int → Option β) : pullD (some (.tup [.agg [iD a, iD b], iD e])) (fun d => (D.vi (D.at (D.at d 0) 0), D.vi (D.at (D.at d 0) 1), D.vi (D.at d 1))) (fun (x, y, z) => .tup [.agg [iD x, iD y], iD z]) k = k (a, b, e) := pullD_some (a, b, e) rfl rfl
theorem pullY {β : Type} (k1 : Nat) (c1 : List D) (e : Int) (k : Nat × List D × Int → Option β) : pullD (some (.tup [.agg [.list k1 c1], iD e])) (fun d => (D.ln (D.at (D.at d 0) 0), D.lc (D.at (D.at d 0) 0), D.vi (D.at d 1))) (fun (x, y, z) => .tup [.agg [.list x y], iD z]) k = k (k1, c1, e) := pullD_some (k1, c1, e) rfl rfl
theorem pull2 {β : Type} (a b : Int) (k : Int × Int → Option β) : pullD (some (.tup [iD a, iD b])) (fun d => (D.vi (D.at d 0), D.vi (D.at d 1))) (fun (x, y) => .tup [iD x, iD y]) k = k (a, b) := pullD_some (a, b) rfl rfl
theorem pullA {β : Type} (a b : Int) (k : Int × Int → Option β) : pullD (some (.agg [iD a, iD b])) (fun d => (D.vi (D.at d 0), D.vi (D.at d 1))) (fun (x, y) => .agg [iD x, iD y]) k = k (a, b) := pullD_some (a, b) rfl rfl
theorem same_frac (a b : Int) : ¬ ((!(a == a && (b == b && true))) = true) := by simp
theorem loop5 (h : Imp l) {y : List (Int × Int)} (hy : Imp y) {at0 : Int} (hown : ∀ i, i < l.length → ta l i < at0 → ∃ j, j < y.length ∧ ta y j = ta l i ∧ va y j = va l i) (at1 tm : Int)
    (x0 x1 : Bool) (x2 : Int) (x3 : Nat) (x4 : List D) (x7 : Int) (x8 : Bool) (x9 : Int) (x10 : Nat) (x11 : List D) (x12 x13 : Int) (x14 : Nat) (x15 : List D) (x16 x17 x18 x19 x20 : Int) (S : Rd → Option Rd)
    (hS : ∀ ds, S (.next 0 ds) = law5_L18_S0 l.length (cP l) at0 at1 tm x0 x1 x2 x3 x4 y.length (cP y) x7 x8 x9 x10 x11 x12 x13 x14 x15 x16 x17 x18 x19 x20 ds) : runR S (.next 0 [iD 0]) = some (.out 0 []) := by
  have hle := h.le
  have hly := hy.le
  have h1 : runR S (.next 0 [iD 0]) = _ := runR_scan (S := S) (fun _ => 0) (fun i => [iD (i : Int)]) (Nat.zero_le l.length) (fun i _ hi => by
    show S (.next 0 _) = _
    rw [hS]
    unfold law5_L18_S0
    rw [pullD_some (i : Int) (by rfl) (by rfl)]
    have e2 : IntKind.i64.wrap ((i : Int) + 1) = ((i + 1 : Nat) : Int) := natI' (by omega)
    simp only [e2, Int.toNat_natCast]
    rw [if_pos (by omega), guardP_pos (by omega), guardP_pos (by omega), readP0 hi, pullI]
    by_cases hc : ta l i < at0
    · obtain ⟨j, hj, j1, j2⟩ := hown i hi hc
      have hv := value10_own hy hj
      rw [j1, j2] at hv
      rw [if_pos hc, foldP, copy9 y (by omega), pullP]
      dsimp only
      rw [pullI, show [D.agg [D.list y.length (cP y)], iD (ta l i)] = [.agg [lP y], iD (ta l i)] from rfl, hv, pullV]
      dsimp only
      rw [if_neg (by decide), readP1 hi, pullI, m_24_eq]
      unfold whole_M
      rw [pullA]
      dsimp only
      rw [if_neg (same_frac _ _)]
    · rw [if_neg hc])
  refine h1.trans (runR_exit ?_)
  rw [hS]
  unfold law5_L18_S0
  rw [pullD_some (l.length : Int) (by rfl) (by rfl), if_neg (by omega)]
theorem law5_eq (l : List (Int × Int)) (at0 at1 tm : Int) : m_5 [.agg [lP l], .agg [iD at0, iD at1], iD tm] = some (.one (.bool true)) := by
  rw [m_5_eq]
  unfold law5_M
  rw [m_6_eq, pullB, if_neg (by decide), foldP, few7, pullB]
  by_cases hf : l.length ≤ 14
  rotate_left
  · rw [if_pos (by simpa using hf)]
  rw [if_neg (by simpa using hf), err22, pullI]
  by_cases he : (impX l).2 ≠ 0
  · rw [if_pos he]
  rw [if_neg he, copy9 l (by omega), pullP]
  dsimp only
  have h := impX_zero (l := l) (by omega)
  have h2 := h.two
  have hle := h.le
  have b0 := h.ok 0 (by omega)
  have bl := h.ok (l.length - 1) (by omega)
  rw [show [D.agg [D.list l.length (cP l)], iD at0, iD at1] = [.agg [lP l], iD at0, iD at1] from rfl]
  by_cases hr : at0 < ta l 0 + 1 ∨ at0 > ta l (l.length - 1) ∨ at1 < 1 ∨ at1 > 100000
  · rw [chop_bad h hr, pullY]
    dsimp only
    rw [if_pos (by decide), if_pos rfl]
    rfl
  obtain ⟨p, hp, hlo, hhi⟩ := piece_of h (tm := at0) (by omega) (by omega)
  have hlo' : ta l p < at0 := by
    rcases Nat.eq_zero_or_pos p with rfl | hp0
    · omega
    · exact hlo hp0
  rw [chop_eq h (by omega) (by omega) (by omega) hp hlo' hhi]
  by_cases hx : at0 + at1 > 1000000 ∨ p + 3 > 12
  · rw [if_pos hx, pullY]
    dsimp only
    rw [if_pos (by decide), if_neg (by decide), if_pos rfl]
    rfl
  rw [if_neg hx, pullY]
  dsimp only
  obtain ⟨hy, yl, y0, yt, yv⟩ := chop_imp h (tm := at0) (fl := at1) (by omega) (by omega) hp hlo' hhi (by omega) (by omega)
  generalize chopY l p at0 at1 = y at hy yl y0 yt yv
  have hw : IntKind.i64.wrap (at0 + at1) = at0 + at1 := wrapJ _ (by omega) (by omega)
  have hend : m_10 [.agg [lP y], iD (at0 + at1)] = some (.tup [.agg [iD 0, iD 1], iD 0]) := by
    have := value10_own hy (i := p + 2) (by omega)
    rw [yt, yv] at this
    exact this
  rw [if_neg (by decide), foldP, few7, pullB, if_neg (by simp; omega), err22, impX_of hy, pullI, if_neg (by decide), copy9 y (by omega), pullP]
  dsimp only
  rw [foldP, chk8, impX_of hy, pull2]
  dsimp only
  rw [if_neg (by decide), pullP]
  dsimp only
  rw [hw, show [D.agg [D.list y.length (cP y)], iD (at0 + at1)] = [.agg [lP y], iD (at0 + at1)] from rfl, hend, pullV]
  dsimp only
  rw [if_neg (by decide), m_24_eq]
  unfold whole_M
  rw [pullA]
  dsimp only
  rw [if_neg (same_frac _ _), bindL_some (loop5 h hy (at0 := at0) (fun i hi hc => by
    refine ⟨i, ?_, ?_⟩
    · rcases Nat.lt_or_ge i (p + 1) with h3 | h3
      · omega
      · have : at0 ≤ ta l i := by
          rcases Nat.lt_or_ge (p + 1) i with h4 | h4
          · have := h.mono h4 hi; omega
          · have : i = p + 1 := by omega
            rw [this]; exact hhi
        omega
    · refine y0 i ?_
      rcases Nat.lt_or_ge p i with h3 | h3
      · have : at0 ≤ ta l i := by
          rcases Nat.lt_or_ge (p + 1) i with h4 | h4
          · have := h.mono h4 hi; omega
          · have : i = p + 1 := by omega
            rw [this]; exact hhi
        omega
      · exact h3) at1 tm true (decide (l.length ≤ 14)) (impX l).2 l.length (cP l) 0 (decide (y.length ≤ 14)) (0, 0).2 y.length (cP y) 0 0 y.length (cP y) 0 1 0 0 1 _ (fun _ => rfl)), if_pos rfl, pullD_some () (by rfl) (by rfl), within_eq, pullB]
  by_cases hq : at0 + at1 ≤ tm ∧ tm ≤ 1000000
  · rw [if_neg (by simpa using hq), pullP]
    dsimp only
    have hv : m_10 [.agg [lP y], iD tm] = some (.tup [.agg [iD 0, iD 1], iD 0]) := by
      rcases Int.lt_or_le (at0 + at1) tm with h3 | h3
      · have hl : y.length - 1 = p + 2 := by omega
        have := value10_end hy (tm := tm) hq.2 (by rw [hl, yt]; exact h3)
        rw [hl, yv] at this
        exact this
      · have : tm = at0 + at1 := by omega
        rw [this]; exact hend
    rw [show [D.agg [D.list y.length (cP y)], iD tm] = [.agg [lP y], iD tm] from rfl, hv, pullV]
    dsimp only
    rw [if_pos rfl, pullA]
    rfl
  · rw [if_pos (by simpa using hq)]
theorem law5_con (l : List (Int × Int)) (at0 at1 tm : Int) : Con 5 [.agg [lP l], .agg [iD at0, iD at1], .one (.int .i64 tm)] (.one (.bool true)) := m_5_ok (law5_eq l at0 at1 tm)
end
end Go.Proofs.Ytaabapmggkkmeaa
/- SurgeChopped: what the runs give, for every argument. -/
namespace Go.Proofs.Ytaabapmggkkmeaa.surgeChopped
open Go.ChangeShapes Go.WideShapes Go.ChangeAt Go.RowKit Go.Joins Go.Ev
set_option maxRecDepth 100000 in
/-- WHAT THE RUNS GIVE, FOR EVERY ARGUMENT AND EVERY WORLD THAT HOLDS THE TABLES. -/
theorem contract (H : Type) (enc : TypeId × Value → H) (W : World) (base : Nat) (args : Array Value) (ds gs : List (DataW H)) (before : List MemPlace)
    (hval : ∀ (j : Nat) t v, Try.f5.params[j]? = some t → args[j]? = some v → Value.okWide Try.prog W .any base t v)
    (hW : DataW.Whole enc Try.prog Try.f5.params.toList Rows.surgeChoppedSpec.vars false W args.toList ds gs before) (hL : laidMetH Try.prog Rows.surgeChoppedRow.laid W) :
    Calls Try.prog 5 args W fun e W' => ∃ v, e = .returned v ∧ Rows.surgeChoppedSpec.post enc Try.prog Try.f5 false true false false W args v W' := by
  have hW' := hW
  have hlt := hW.lt
  obtain ⟨p, q, hA0, hV, rfl, hfz, hnd⟩ := hW
  have hA : DataW.TrodAll enc Try.prog W 0 (fun _ => true) true Try.f5.params.toList args.toList ds p := hA0
  rw [Try.params5] at hA hval
  obtain ⟨v0, vs0, d0, ds0, p0, q0, hargs, rfl, rfl, h0, r0⟩ := trodAll_cons hA
  obtain ⟨v1, vs1, d1, ds1, p1, q1, rfl, rfl, rfl, h1, r1⟩ := trodAll_cons r0
  obtain ⟨v2, vs2, d2, ds2, p2, q2, rfl, rfl, rfl, h2, r2⟩ := trodAll_cons r1
  obtain ⟨rfl, rfl, rfl⟩ := trodAll_nil r2
  obtain rfl : args = #[v0, v1, v2] := by cases args; simp_all
  obtain ⟨rfl, rfl⟩ := trodVars_none hV
  obtain ⟨e0, o0, k0⟩ := open_agg (ls := [.sl [.int .i64, .int .i64]]) 8 (by kernel_rfl) (by kernel_rfl) (by kernel_rfl) (hval 0 24 v0 rfl rfl) h0
  obtain ⟨l, rfl⟩ := imp_of o0
  obtain ⟨e1, o1, k1⟩ := open_agg (ls := [.int .i64, .int .i64]) 8 (by kernel_rfl) (by kernel_rfl) (by kernel_rfl) (hval 1 47 v1 rfl rfl) h1
  obtain ⟨x, y, rfl⟩ := ints2_of o1
  obtain ⟨e2, o2, k2⟩ := open_cell (c := .int .i64) 8 (by kernel_rfl) (by kernel_rfl) (by kernel_rfl) (hval 2 3 v2 rfl rfl) h2
  obtain ⟨tm, rfl, -⟩ := int_of o2
  have hr : RpL (fun _ => True) W [.agg [lP l], .agg [.one (.int .i64 x), .one (.int .i64 y)], .one (.int .i64 tm)] [v0, v1, v2] := by
    simp only [RpL]
    exact ⟨v0, _, rfl, k0, ⟨v1, _, rfl, k1, ⟨v2, _, rfl, k2, rfl⟩⟩⟩
  refine (law5_con l x y tm W (fun _ => True) _ tabs0 hr).mono fun e W' ⟨v, he, hv, hg⟩ => ?_
  simp only [Rp] at hv
  subst he
  subst hv
  have hlaid : laidOutB Try.prog = true := by kernel_rfl
  exact ⟨_, rfl, post_below (pa := (p0 ++ (p1 ++ (p2 ++ [])))) (pv := []) hW' (fun _ _ _ => trodAll_cons_mk (shut_bool Try.underlying4 _) trodAll_mk0) (fun sp hsp => by
    rw [Try.params5]
    exact trodAll_cons_mk (stays hlaid (by kernel_rfl) (of_decide_eq_true (by kernel_rfl)) h0 hg (fun x hx => hlt x (by simp only [List.mem_append]; left; left; exact hx)) (fun x hx => hsp x (by simp only [List.mem_append]; left; left; exact hx))) (trodAll_cons_mk (stays hlaid (by kernel_rfl) (of_decide_eq_true (by kernel_rfl)) h1 hg (fun x hx => hlt x (by simp only [List.mem_append]; left; right; left; exact hx)) (fun x hx => hsp x (by simp only [List.mem_append]; left; right; left; exact hx))) (trodAll_cons_mk (stays hlaid (by kernel_rfl) (of_decide_eq_true (by kernel_rfl)) h2 hg (fun x hx => hlt x (by simp only [List.mem_append]; left; right; right; left; exact hx)) (fun x hx => hsp x (by simp only [List.mem_append]; left; right; right; left; exact hx))) (trodAll_mk0)))) (fun _ _ => rfl) rfl
    hg (ok_one (by kernel_rfl) rfl (okWide_bool_mk Try.underlying4 _))⟩
end Go.Proofs.Ytaabapmggkkmeaa.surgeChopped
/- SurgeChopped: closed facts of the witness. -/
namespace Go.Proofs.Ytaabapmggkkmeaa.surgeChopped
open Go.ChangeShapes Go.WideShapes Go.ChangeAt Go.RowKit Go.Joins
/-- THE WITNESS's ARGUMENTS. -/
noncomputable def args0 : Array Value := #[.agg #[.slice none 0 0], .agg #[.int .i64 0, .int .i64 0], .int .i64 0]
/-- A WORLD FOR THE WITNESS: the heap that the program's own initialisers leave. -/
noncomputable def start (os : Os) : World := World.doorLaid Try.prog 400 os
theorem laid_met (os : Os) : laidMet Try.prog Rows.surgeChoppedRow.laid ((start os).forCall (fun _ _ => 0) ⟨#[], args0, []⟩).memory := ⟨[], rfl, List.nodup_nil, fun _ _ h => by cases h⟩
theorem reads (os : Os) {H : Type} (enc : TypeId × Value → H) : ∃ places, DataW.whole enc Try.prog ((start os).forCall (fun _ _ => 0) ⟨#[], args0, []⟩).memory Try.f5.params.toList Rows.surgeChoppedSpec.vars false args0.toList 8 = some ([.agg [.nil], .agg [.lit (.int .i64 0), .lit (.int .i64 0)], .lit (.int .i64 0)], [], places) :=
  ⟨[], by kernel_rfl⟩
theorem vB (os : Os) : ((start os).forCall (fun _ _ => 0) ⟨#[], args0, []⟩).variablesB Try.prog = true := by kernel_rfl
theorem rB (os : Os) : (((start os).forCall (fun _ _ => 0) ⟨#[], args0, []⟩).heap.toList.drop Try.prog.globals.size).take ((begin Try.prog (fun _ _ => 0) default).world.heap.size - Try.prog.globals.size) = (begin Try.prog (fun _ _ => 0) default).world.heap.toList.drop Try.prog.globals.size := by kernel_rfl
theorem oB (os : Os) : Input.okWideB Try.prog ((start os).forCall (fun _ _ => 0) ⟨#[], args0, []⟩) 5 ⟨#[], args0, []⟩ = true := by kernel_rfl
theorem hB (os : Os) : (start os).os = os := by kernel_rfl
end Go.Proofs.Ytaabapmggkkmeaa.surgeChopped
/- For any impulse, time, fall and time of reading, valid or not, the law SurgeChopped of the program answers true, and its arguments read as they did. CONDITIONS: none. -/
namespace Go.Proofs.Ytaabapmggkkmeaa.surgeChopped
open Go.ChangeShapes Go.WideShapes Go.ChangeAt Go.RowKit Go.Joins
set_option maxRecDepth 100000 in
theorem lifted (os : Os) (started : os.Started) (H : Type) (enc : TypeId × Value → H) (F : Stop.Interp) :
    ReturnsInHanded {} Try.checked os 5 .any ((OpenSpec.ofChange Rows.surgeChoppedSpec).preRow enc Try.prog Try.f5 Rows.surgeChoppedRow.domain false Rows.surgeChoppedRow.laid) (((OpenSpec.ofChange Rows.surgeChoppedSpec).at F).post enc Try.prog Try.f5 false true false false) := by
  obtain ⟨places, hx⟩ := reads os enc
  refine returnsInHanded_of_row (C := Try.checked) (s := OpenSpec.ofChange Rows.surgeChoppedSpec) own started (by kernel_rfl) Try.func5
    (witness_row_at (enc := enc) (C := Try.checked) false (start os) args0 (hB os) (vB os) (rB os) (oB os)
      (OpenSpec.preRow_of_cond 8 hx (by kernel_rfl) (fun k hk => by cases hk) (by kernel_rfl) (laid_met os))) ?_
  intro W base args ds gs before hval hW _ _ _ hL _ _
  exact contract H enc W base args ds gs before hval hW hL
theorem said : Rows.SurgeChoppedSaid :=
  OpenClaim.holds_of_cond 5 Try.f5 rfl rfl rfl rfl rfl rfl rfl ⟨rfl, rfl, rfl, rfl, rfl⟩ rfl rfl rfl rfl rfl (by kernel_rfl) Try.func5 (by kernel_rfl)
    (of_decide_eq_true (by kernel_rfl)) (by unfold Func.isWrapper; first | (rw [if_pos (by decide +kernel)]; kernel_rfl) | (rw [if_neg (by decide +kernel)]; exact ⟨rfl, rfl⟩))
    (fun os started H enc _ F => by rw [OpenClaim.pre_eq_preRow]; exact lifted os started H enc F)
end Go.Proofs.Ytaabapmggkkmeaa.surgeChopped
