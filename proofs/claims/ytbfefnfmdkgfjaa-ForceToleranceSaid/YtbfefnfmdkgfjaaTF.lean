/- For any two windows and any tolerance, valid or not, the law ForceTolerance of the program answers true, and its arguments read as they did. CONDITIONS: none. -/
import Derived.Test.YtbfefnfmdkgfjaaTD
import Derived.Test.YtbfefnfmdkgfjaaTE
import Derived.Test.YtbfefnfmdkgfjaaTA
set_option linter.unusedVariables false
set_option linter.unusedSimpArgs false
set_option linter.unusedSectionVars false
set_option linter.unnecessarySimpa false
namespace Go.Proofs.Ytbfefnfmdkgfjaa
open Go.Ev Go.RowKit
set_option maxRecDepth 100000
set_option maxHeartbeats 8000000
set_option linter.all false
noncomputable section
def law7_x13_0 : LExit := ⟨some 0, [], (6 :: (17 :: (List.range' 140 41)))⟩
def law7_x13_1 : LExit := ⟨none, [.val 6], (17 :: (List.range' 140 41))⟩
def law7_x24_0 : LExit := ⟨some 4, [], (6 :: (21 :: (List.range' 193 23)))⟩
def law7_x24_1 : LExit := ⟨none, [.val 6], (21 :: (List.range' 193 23))⟩
def law7_sp : List LSpec := [⟨7, 13, [law7_x13_0, law7_x13_1]⟩, ⟨7, 24, [law7_x24_0, law7_x24_1]⟩]
def law7_L24_2_E (ka : Nat) (ca : List D) (kb : Nat) (cb : List D) (kc : Nat) (cc : List D) (kd : Nat) (cd : List D) (tol : Int) (x0 : Bool) (x1 : Bool) (x2 : Bool) (x3 : Int) (x4 : Int) (x5 : Bool) (x6 : Nat) (x7 : List D) (x8 : Nat) (x9 : List D) (x10 : Int) (x11 : Int) (x12 : Int) (x13 : Nat) (x14 : List D) (x15 : Nat) (x16 : List D) (x17 : Int) (x18 : Int) (x19 : Int) (x20 : Nat) (x21 : List D) (x22 : Nat) (x23 : List D) (x24 : Int) (x25 : Int) (x26 : Int) (x27 : Nat) (x28 : List D) (x29 : Nat) (x30 : List D) (x31 : Int) (x32 : Int) (x33 : Nat) (x34 : List D) (x35 : Nat) (x36 : List D) (x37 : Int) (x38 : Int) (x39 : Nat) (x40 : List D) (x41 : Nat) (x42 : List D) (x43 : Nat) (x44 : List D) (x45 : Nat) (x46 : List D) (x47 : Int) : List AV × AHeap := ([.agg [.dsl 0, .dsl 1], .agg [.dsl 2, .dsl 3], .pure (.int .i64 tol), .ptr 4 0, .ptr 5 0, .pure (.tuple #[]), .any 67, .ptr 8 0, .pure (.int .i64 x12), .ptr 11 0, .pure (.int .i64 x19), .ptr 14 0, .pure (.int .i64 x26), .pure (.int .i64 x31), .pure (.int .i64 x32), .pure (.int .i64 x37), .pure (.int .i64 x38), .any 20, .ptr 66 0, .pure (.int .i64 x47), .pure (.int .i64 (1 : Int)), .pure (.int .i64 (0 : Int)), .pure (.bool x0), .pure (.bool !x0), .agg [.dsl 0, .dsl 1], .pure (.bool x1), .pure (.bool !x1), .pure (.bool !x1), .agg [.dsl 2, .dsl 3], .pure (.bool x2), .pure (.bool !x2), .pure (.bool !x2), .pure (.bool !x2), .agg [.dsl 0, .dsl 1], .pure (.int .i64 x3), .pure (.bool (x3 != (0 : Int))), .pure (.bool (x3 != (0 : Int))), .pure (.bool (x3 != (0 : Int))), .agg [.dsl 2, .dsl 3], .pure (.int .i64 x4), .pure (.bool (x4 != (0 : Int))), .pure (.bool (x4 != (0 : Int))), .pure (.bool (x4 != (0 : Int))), .pure (.int .i64 tol), .pure (.bool x5), .pure (.bool !x5), .pure (.bool !x5), .pure (.bool !x5), .ptr 5 0, .dsl 2, .pure (.int .i64 (kc : Int)), .ptr 4 0, .dsl 0, .pure (.int .i64 (ka : Int)), .pure (.bool ((kc : Int) != (ka : Int))), .pure (.bool ((kc : Int) != (ka : Int))), .pure (.tuple #[.agg #[.int .i64 x10, .int .i64 x11], .int .i64 x12]), .agg [.dsl 0, .dsl 1], .agg [.dsl 6, .dsl 7], .pure (.int .i64 tol), .pure (.tuple #[.agg #[.int .i64 x10, .int .i64 x11], .int .i64 x12]), .pure (.agg #[.int .i64 x10, .int .i64 x11]), .pure (.int .i64 x12), .pure (.tuple #[.agg #[.int .i64 x17, .int .i64 x18], .int .i64 x19]), .agg [.dsl 0, .dsl 1], .agg [.dsl 9, .dsl 10], .pure (.int .i64 tol), .pure (.int .i64 (IntKind.i64.wrap (tol + (1 : Int)))), .pure (.tuple #[.agg #[.int .i64 x17, .int .i64 x18], .int .i64 x19]), .pure (.agg #[.int .i64 x17, .int .i64 x18]), .pure (.int .i64 x19), .pure (.tuple #[.agg #[.int .i64 x24, .int .i64 x25], .int .i64 x26]), .agg [.dsl 0, .dsl 1], .agg [.dsl 12, .dsl 13], .pure (.tuple #[.agg #[.int .i64 x24, .int .i64 x25], .int .i64 x26]), .pure (.agg #[.int .i64 x24, .int .i64 x25]), .pure (.int .i64 x26), .pure (.tuple #[.int .i64 x31, .int .i64 x32]), .agg [.dsl 0, .dsl 1], .agg [.dsl 15, .dsl 16], .pure (.tuple #[.int .i64 x31, .int .i64 x32]), .pure (.int .i64 x31), .pure (.int .i64 x32), .pure (.tuple #[.int .i64 x37, .int .i64 x38]), .agg [.dsl 0, .dsl 1], .agg [.dsl 17, .dsl 18], .pure (.tuple #[.int .i64 x37, .int .i64 x38]), .pure (.int .i64 x37), .pure (.int .i64 x38), .pure (.int .i64 x12), .pure (.bool (x12 != (0 : Int))), .pure (.bool (x12 != (0 : Int))), .pure (.int .i64 x19), .pure (.bool (x19 != (0 : Int))), .pure (.bool (x19 != (0 : Int))), .pure (.bool (x19 != (0 : Int))), .pure (.int .i64 x26), .pure (.bool (x26 != (0 : Int))), .pure (.bool (x26 != (0 : Int))), .pure (.bool (x26 != (0 : Int))), .pure (.int .i64 x32), .pure (.bool (x32 != (0 : Int))), .pure (.bool (x32 != (0 : Int))), .pure (.bool (x32 != (0 : Int))), .pure (.int .i64 x38), .pure (.bool (x38 != (0 : Int))), .pure (.bool (x38 != (0 : Int))), .pure (.bool (x38 != (0 : Int))), .pure (.agg #[.int .i64 x24, .int .i64 x25]), .pure (.int .i64 x31), .pure (.int .i64 x37), .pure (.agg #[.int .i64 x31, .int .i64 x37]), .pure (.bool !(x24 == x31 && (x25 == x37 && true))), .pure (.bool !(x24 == x31 && (x25 == x37 && true))), .pure (.bool !(x24 == x31 && (x25 == x37 && true))), .ptr 8 0, .pure (.int .i64 x10), .ptr 11 0, .pure (.int .i64 x17), .pure (.bool (decide (x10 > x17))), .pure (.bool (decide (x10 > x17))), .pure (.bool (decide (x10 > x17))), .ptr 8 1, .pure (.int .i64 x11), .ptr 11 1, .pure (.int .i64 x18), .pure (.bool (decide (x11 > x18))), .pure (.bool (decide (x11 > x18))), .pure (.bool (decide (x11 > x18))), .ptr 8 0, .pure (.int .i64 x10), .pure (.int .i64 x31), .pure (.bool (decide (x10 < x31))), .pure (.bool (decide (x10 < x31))), .pure (.bool (decide (x10 < x31))), .ptr 8 1, .pure (.int .i64 x11), .pure (.int .i64 x37), .pure (.bool (decide (x11 < x37))), .pure (.bool (decide (x11 < x37))), .any 21, .any 22, .any 23, .any 24, .any 25, .any 26, .any 27, .any 28, .any 29, .any 30, .any 31, .any 32, .any 33, .any 34, .any 35, .any 36, .any 37, .any 38, .any 39, .any 40, .any 41, .any 42, .any 43, .any 44, .any 45, .any 46, .any 47, .any 48, .any 49, .any 50, .any 51, .any 52, .any 53, .any 54, .any 55, .any 56, .any 57, .any 58, .any 59, .any 60, .any 61, .tuple [.agg [.dsl 64, .dsl 65], .pure (.int .i64 x47)], .agg [.dsl 2, .dsl 3], .agg [.dsl 62, .dsl 63], .tuple [.agg [.dsl 64, .dsl 65], .pure (.int .i64 x47)], .agg [.dsl 64, .dsl 65], .pure (.int .i64 x47), .pure (.int .i64 x47), .pure (.bool (x47 != (0 : Int))), .pure (.int .i64 (1 : Int)), .pure (.bool true), .pure (.int .i64 (0 : Int)), .pure (.int .i64 (1 : Int)), .any 69, .any 70, .any 71, .any 72, .any 73, .any 74, .any 75, .any 76, .any 77, .any 78, .any 79, .any 80, .any 81, .any 82, .any 83, .any 84, .any 85, .any 86, .any 87, .any 88, .any 89, .any 90, .any 91], [(66, { cells := [.dsl 64, .dsl 65], opn := none, kind := .cells }), (65, { cells := [], opn := none, kind := .deep x45 x46 }), (64, { cells := [], opn := none, kind := .deep x43 x44 }), (63, { cells := [], opn := none, kind := .deep x41 x42 }), (62, { cells := [], opn := none, kind := .deep x39 x40 }), (18, { cells := [], opn := none, kind := .deep x35 x36 }), (17, { cells := [], opn := none, kind := .deep x33 x34 }), (16, { cells := [], opn := none, kind := .deep x29 x30 }), (15, { cells := [], opn := none, kind := .deep x27 x28 }), (14, { cells := [.pure (.int .i64 x24), .pure (.int .i64 x25)], opn := none, kind := .cells }), (13, { cells := [], opn := none, kind := .deep x22 x23 }), (12, { cells := [], opn := none, kind := .deep x20 x21 }), (11, { cells := [.pure (.int .i64 x17), .pure (.int .i64 x18)], opn := none, kind := .cells }), (10, { cells := [], opn := none, kind := .deep x15 x16 }), (9, { cells := [], opn := none, kind := .deep x13 x14 }), (8, { cells := [.pure (.int .i64 x10), .pure (.int .i64 x11)], opn := none, kind := .cells }), (7, { cells := [], opn := none, kind := .deep x8 x9 }), (6, { cells := [], opn := none, kind := .deep x6 x7 }), (5, { cells := [.dsl 2, .dsl 3], opn := none, kind := .cells }), (4, { cells := [.dsl 0, .dsl 1], opn := none, kind := .cells }), (3, { cells := [], opn := none, kind := .deep kd cd }), (2, { cells := [], opn := none, kind := .deep kc cc }), (1, { cells := [], opn := none, kind := .deep kb cb }), (0, { cells := [], opn := none, kind := .deep ka ca })])
def law7_L24_2_A : LoopAt := ⟨7, loopAt Try.prog 7 2, 92, 117, 92, noFrame⟩
theorem law7_L24_2_ok : (law7_L24_2_A).OK := ⟨by show 92 ≤ 117; decide, by show 92 ≤ 92; decide, by kernel_rfl, rfl⟩
def law7_L24_2_gs (ka : Nat) (ca : List D) (kb : Nat) (cb : List D) (kc : Nat) (cc : List D) (kd : Nat) (cd : List D) (tol : Int) (x0 : Bool) (x1 : Bool) (x2 : Bool) (x3 : Int) (x4 : Int) (x5 : Bool) (x6 : Nat) (x7 : List D) (x8 : Nat) (x9 : List D) (x10 : Int) (x11 : Int) (x12 : Int) (x13 : Nat) (x14 : List D) (x15 : Nat) (x16 : List D) (x17 : Int) (x18 : Int) (x19 : Int) (x20 : Nat) (x21 : List D) (x22 : Nat) (x23 : List D) (x24 : Int) (x25 : Int) (x26 : Int) (x27 : Nat) (x28 : List D) (x29 : Nat) (x30 : List D) (x31 : Int) (x32 : Int) (x33 : Nat) (x34 : List D) (x35 : Nat) (x36 : List D) (x37 : Int) (x38 : Int) (x39 : Nat) (x40 : List D) (x41 : Nat) (x42 : List D) (x43 : Nat) (x44 : List D) (x45 : Nat) (x46 : List D) (x47 : Int) : Go.Ev.Rd → Option GS
  | .next 0 ds => ghost [.val 21] (6 :: (List.range' 193 23)) (law7_L24_2_E ka ca kb cb kc cc kd cd tol x0 x1 x2 x3 x4 x5 x6 x7 x8 x9 x10 x11 x12 x13 x14 x15 x16 x17 x18 x19 x20 x21 x22 x23 x24 x25 x26 x27 x28 x29 x30 x31 x32 x33 x34 x35 x36 x37 x38 x39 x40 x41 x42 x43 x44 x45 x46 x47).1 (law7_L24_2_E ka ca kb cb kc cc kd cd tol x0 x1 x2 x3 x4 x5 x6 x7 x8 x9 x10 x11 x12 x13 x14 x15 x16 x17 x18 x19 x20 x21 x22 x23 x24 x25 x26 x27 x28 x29 x30 x31 x32 x33 x34 x35 x36 x37 x38 x39 x40 x41 x42 x43 x44 x45 x46 x47).2 92 ds
  | .out 0 ds => ghost law7_x24_0.live law7_x24_0.junk (law7_L24_2_E ka ca kb cb kc cc kd cd tol x0 x1 x2 x3 x4 x5 x6 x7 x8 x9 x10 x11 x12 x13 x14 x15 x16 x17 x18 x19 x20 x21 x22 x23 x24 x25 x26 x27 x28 x29 x30 x31 x32 x33 x34 x35 x36 x37 x38 x39 x40 x41 x42 x43 x44 x45 x46 x47).1 (law7_L24_2_E ka ca kb cb kc cc kd cd tol x0 x1 x2 x3 x4 x5 x6 x7 x8 x9 x10 x11 x12 x13 x14 x15 x16 x17 x18 x19 x20 x21 x22 x23 x24 x25 x26 x27 x28 x29 x30 x31 x32 x33 x34 x35 x36 x37 x38 x39 x40 x41 x42 x43 x44 x45 x46 x47).2 92 ds
  | .out 1 ds => ghost law7_x24_1.live law7_x24_1.junk (law7_L24_2_E ka ca kb cb kc cc kd cd tol x0 x1 x2 x3 x4 x5 x6 x7 x8 x9 x10 x11 x12 x13 x14 x15 x16 x17 x18 x19 x20 x21 x22 x23 x24 x25 x26 x27 x28 x29 x30 x31 x32 x33 x34 x35 x36 x37 x38 x39 x40 x41 x42 x43 x44 x45 x46 x47).1 (law7_L24_2_E ka ca kb cb kc cc kd cd tol x0 x1 x2 x3 x4 x5 x6 x7 x8 x9 x10 x11 x12 x13 x14 x15 x16 x17 x18 x19 x20 x21 x22 x23 x24 x25 x26 x27 x28 x29 x30 x31 x32 x33 x34 x35 x36 x37 x38 x39 x40 x41 x42 x43 x44 x45 x46 x47).2 92 ds
  | _ => none
def law7_L24_2_ex : Nat → Option Nat
  | 0 => law7_x24_0.ex
  | 1 => law7_x24_1.ex
  | _ => none
def law7_L24_2_ax : Go.Ev.Rd → AX
  | .next _ _ => .normal
  | .out j _ => axOf (law7_L24_2_ex j)
def law7_L24_2_S0 (ka : Nat) (ca : List D) (kb : Nat) (cb : List D) (kc : Nat) (cc : List D) (kd : Nat) (cd : List D) (tol : Int) (x0 : Bool) (x1 : Bool) (x2 : Bool) (x3 : Int) (x4 : Int) (x5 : Bool) (x6 : Nat) (x7 : List D) (x8 : Nat) (x9 : List D) (x10 : Int) (x11 : Int) (x12 : Int) (x13 : Nat) (x14 : List D) (x15 : Nat) (x16 : List D) (x17 : Int) (x18 : Int) (x19 : Int) (x20 : Nat) (x21 : List D) (x22 : Nat) (x23 : List D) (x24 : Int) (x25 : Int) (x26 : Int) (x27 : Nat) (x28 : List D) (x29 : Nat) (x30 : List D) (x31 : Int) (x32 : Int) (x33 : Nat) (x34 : List D) (x35 : Nat) (x36 : List D) (x37 : Int) (x38 : Int) (x39 : Nat) (x40 : List D) (x41 : Nat) (x42 : List D) (x43 : Nat) (x44 : List D) (x45 : Nat) (x46 : List D) (x47 : Int) (ds : List D) : Option Go.Ev.Rd := pullD (α := Int) (some (.tup ds)) (fun d => ((D.vi (D.at d 0)))) (fun s21 => .tup [iD s21]) fun s21 => ((if s21 < (x45 : Int) then guardP ((0 : Int) ≤ s21 ∧ s21.toNat < x45) (pullD (α := Int) (readD x46 (s21.toNat * 1) 1 false) (fun d => ((D.vi d))) (fun v0 => iD v0) fun v0 => (pullD (α := Bool) (m_25 [iD v0, iD (IntKind.i64.wrap ((0 : Int) - x11)), iD x11]) (fun d => ((D.vb d))) (fun r1 => .one (.bool r1)) fun r1 => ((if r1 = false then some (.out 1 [.one (.bool false)]) else some (.next 0 [iD (IntKind.i64.wrap (s21 + (1 : Int)))]))))) else some (.out 0 [])))
def law7_L24_2_S (ka : Nat) (ca : List D) (kb : Nat) (cb : List D) (kc : Nat) (cc : List D) (kd : Nat) (cd : List D) (tol : Int) (x0 : Bool) (x1 : Bool) (x2 : Bool) (x3 : Int) (x4 : Int) (x5 : Bool) (x6 : Nat) (x7 : List D) (x8 : Nat) (x9 : List D) (x10 : Int) (x11 : Int) (x12 : Int) (x13 : Nat) (x14 : List D) (x15 : Nat) (x16 : List D) (x17 : Int) (x18 : Int) (x19 : Int) (x20 : Nat) (x21 : List D) (x22 : Nat) (x23 : List D) (x24 : Int) (x25 : Int) (x26 : Int) (x27 : Nat) (x28 : List D) (x29 : Nat) (x30 : List D) (x31 : Int) (x32 : Int) (x33 : Nat) (x34 : List D) (x35 : Nat) (x36 : List D) (x37 : Int) (x38 : Int) (x39 : Nat) (x40 : List D) (x41 : Nat) (x42 : List D) (x43 : Nat) (x44 : List D) (x45 : Nat) (x46 : List D) (x47 : Int) : Go.Ev.Rd → Option Go.Ev.Rd
  | .next 0 ds => law7_L24_2_S0 ka ca kb cb kc cc kd cd tol x0 x1 x2 x3 x4 x5 x6 x7 x8 x9 x10 x11 x12 x13 x14 x15 x16 x17 x18 x19 x20 x21 x22 x23 x24 x25 x26 x27 x28 x29 x30 x31 x32 x33 x34 x35 x36 x37 x38 x39 x40 x41 x42 x43 x44 x45 x46 x47 ds
  | _ => none
theorem law7_L24_2_S_ok (ka : Nat) (ca : List D) (kb : Nat) (cb : List D) (kc : Nat) (cc : List D) (kd : Nat) (cd : List D) (tol : Int) (x0 : Bool) (x1 : Bool) (x2 : Bool) (x3 : Int) (x4 : Int) (x5 : Bool) (x6 : Nat) (x7 : List D) (x8 : Nat) (x9 : List D) (x10 : Int) (x11 : Int) (x12 : Int) (x13 : Nat) (x14 : List D) (x15 : Nat) (x16 : List D) (x17 : Int) (x18 : Int) (x19 : Int) (x20 : Nat) (x21 : List D) (x22 : Nat) (x23 : List D) (x24 : Int) (x25 : Int) (x26 : Int) (x27 : Nat) (x28 : List D) (x29 : Nat) (x30 : List D) (x31 : Int) (x32 : Int) (x33 : Nat) (x34 : List D) (x35 : Nat) (x36 : List D) (x37 : Int) (x38 : Int) (x39 : Nat) (x40 : List D) (x41 : Nat) (x42 : List D) (x43 : Nat) (x44 : List D) (x45 : Nat) (x46 : List D) (x47 : Int) : ∀ s_ t_, law7_L24_2_S ka ca kb cb kc cc kd cd tol x0 x1 x2 x3 x4 x5 x6 x7 x8 x9 x10 x11 x12 x13 x14 x15 x16 x17 x18 x19 x20 x21 x22 x23 x24 x25 x26 x27 x28 x29 x30 x31 x32 x33 x34 x35 x36 x37 x38 x39 x40 x41 x42 x43 x44 x45 x46 x47 s_ = some t_ → Step (ctx [7] law7_sp) Tabs law7_L24_2_A (stateOf (law7_L24_2_gs ka ca kb cb kc cc kd cd tol x0 x1 x2 x3 x4 x5 x6 x7 x8 x9 x10 x11 x12 x13 x14 x15 x16 x17 x18 x19 x20 x21 x22 x23 x24 x25 x26 x27 x28 x29 x30 x31 x32 x33 x34 x35 x36 x37 x38 x39 x40 x41 x42 x43 x44 x45 x46 x47 s_)) (stateOf (law7_L24_2_gs ka ca kb cb kc cc kd cd tol x0 x1 x2 x3 x4 x5 x6 x7 x8 x9 x10 x11 x12 x13 x14 x15 x16 x17 x18 x19 x20 x21 x22 x23 x24 x25 x26 x27 x28 x29 x30 x31 x32 x33 x34 x35 x36 x37 x38 x39 x40 x41 x42 x43 x44 x45 x46 x47 t_)) (law7_L24_2_ax t_) ∧ EndOK law7_L24_2_A.nx law7_L24_2_A.low (law7_L24_2_gs ka ca kb cb kc cc kd cd tol x0 x1 x2 x3 x4 x5 x6 x7 x8 x9 x10 x11 x12 x13 x14 x15 x16 x17 x18 x19 x20 x21 x22 x23 x24 x25 x26 x27 x28 x29 x30 x31 x32 x33 x34 x35 x36 x37 x38 x39 x40 x41 x42 x43 x44 x45 x46 x47) t_
  | .next 0 ds, t_, h => by
    have h_ : law7_L24_2_S0 ka ca kb cb kc cc kd cd tol x0 x1 x2 x3 x4 x5 x6 x7 x8 x9 x10 x11 x12 x13 x14 x15 x16 x17 x18 x19 x20 x21 x22 x23 x24 x25 x26 x27 x28 x29 x30 x31 x32 x33 x34 x35 x36 x37 x38 x39 x40 x41 x42 x43 x44 x45 x46 x47 ds = some t_ := h
    clear h
    unfold law7_L24_2_S0 at h_
    obtain ⟨s21, e0, h0⟩ := pullD_elim h_
    clear h_
    obtain rfl := tup_inj e0
    by_cases b1_ : s21 < (x45 : Int)
    · have h2_ := (if_pos b1_).symm.trans h0
      obtain ⟨f3_, h4_⟩ := guardP_elim h2_
      obtain ⟨v0, f5_, h6_⟩ := pullD_elim h4_
      replace f5_ := readD_elim f5_
      obtain ⟨r1, f7_, h8_⟩ := pullD_elim h6_
      replace f7_ := m_25_ok f7_
      by_cases b9_ : r1 = false
      · have h10_ := (if_pos b9_).symm.trans h8_
        obtain rfl := Option.some.inj h10_
        exact ⟨step_pc 3000 (bT 2 []) [iD v0, .one (.bool r1)] [c_d b1_, c_f f3_, c_f f5_, c_no b9_] [k_c f7_] _ rfl (by kernel_rfl) (by kernel_rfl) (by kernel_rfl) (by kernel_rfl) (by kernel_rfl) (by kernel_rfl), by kernel_rfl, by kernel_rfl⟩
      have h10_ := (if_neg b9_).symm.trans h8_
      have b11_ : r1 = true := by first | exact b9_ | simpa using b9_
      obtain rfl := Option.some.inj h10_
      exact ⟨step_pc 3000 (bT 1 (bF 1 [])) [iD v0, .one (.bool r1)] [c_d b1_, c_f f3_, c_f f5_, c_nn b11_] [k_c f7_] _ rfl (by kernel_rfl) (by kernel_rfl) (by kernel_rfl) (by kernel_rfl) (by kernel_rfl) (by kernel_rfl), trivial⟩
    have h2_ := (if_neg b1_).symm.trans h0
    obtain rfl := Option.some.inj h2_
    exact ⟨step_pc 3000 (bF 1 []) [] [c_n b1_] [] _ rfl (by kernel_rfl) (by kernel_rfl) (by kernel_rfl) (by kernel_rfl) (by kernel_rfl) (by kernel_rfl), by kernel_rfl, by kernel_rfl⟩
  | .next (_ + 1) _, _, h => by cases h
  | .out _ _, _, h => by cases h
theorem law7_L24_2_go (ka : Nat) (ca : List D) (kb : Nat) (cb : List D) (kc : Nat) (cc : List D) (kd : Nat) (cd : List D) (tol : Int) (x0 : Bool) (x1 : Bool) (x2 : Bool) (x3 : Int) (x4 : Int) (x5 : Bool) (x6 : Nat) (x7 : List D) (x8 : Nat) (x9 : List D) (x10 : Int) (x11 : Int) (x12 : Int) (x13 : Nat) (x14 : List D) (x15 : Nat) (x16 : List D) (x17 : Int) (x18 : Int) (x19 : Int) (x20 : Nat) (x21 : List D) (x22 : Nat) (x23 : List D) (x24 : Int) (x25 : Int) (x26 : Int) (x27 : Nat) (x28 : List D) (x29 : Nat) (x30 : List D) (x31 : Int) (x32 : Int) (x33 : Nat) (x34 : List D) (x35 : Nat) (x36 : List D) (x37 : Int) (x38 : Int) (x39 : Nat) (x40 : List D) (x41 : Nat) (x42 : List D) (x43 : Nat) (x44 : List D) (x45 : Nat) (x46 : List D) (x47 : Int) {q : Nat} {ds : List D} {j : Nat} {es : List D} (h : runR (law7_L24_2_S ka ca kb cb kc cc kd cd tol x0 x1 x2 x3 x4 x5 x6 x7 x8 x9 x10 x11 x12 x13 x14 x15 x16 x17 x18 x19 x20 x21 x22 x23 x24 x25 x26 x27 x28 x29 x30 x31 x32 x33 x34 x35 x36 x37 x38 x39 x40 x41 x42 x43 x44 x45 x46 x47) (.next q ds) = some (.out j es)) : Runs (ctx [7] law7_sp) Tabs law7_L24_2_A (stateOf (law7_L24_2_gs ka ca kb cb kc cc kd cd tol x0 x1 x2 x3 x4 x5 x6 x7 x8 x9 x10 x11 x12 x13 x14 x15 x16 x17 x18 x19 x20 x21 x22 x23 x24 x25 x26 x27 x28 x29 x30 x31 x32 x33 x34 x35 x36 x37 x38 x39 x40 x41 x42 x43 x44 x45 x46 x47 (.next q ds))) (stateOf (law7_L24_2_gs ka ca kb cb kc cc kd cd tol x0 x1 x2 x3 x4 x5 x6 x7 x8 x9 x10 x11 x12 x13 x14 x15 x16 x17 x18 x19 x20 x21 x22 x23 x24 x25 x26 x27 x28 x29 x30 x31 x32 x33 x34 x35 x36 x37 x38 x39 x40 x41 x42 x43 x44 x45 x46 x47 (.out j es))) (law7_L24_2_ax (.out j es)) ∧ (nxtOf (law7_L24_2_gs ka ca kb cb kc cc kd cd tol x0 x1 x2 x3 x4 x5 x6 x7 x8 x9 x10 x11 x12 x13 x14 x15 x16 x17 x18 x19 x20 x21 x22 x23 x24 x25 x26 x27 x28 x29 x30 x31 x32 x33 x34 x35 x36 x37 x38 x39 x40 x41 x42 x43 x44 x45 x46 x47 (.out j es)), lowGS (law7_L24_2_gs ka ca kb cb kc cc kd cd tol x0 x1 x2 x3 x4 x5 x6 x7 x8 x9 x10 x11 x12 x13 x14 x15 x16 x17 x18 x19 x20 x21 x22 x23 x24 x25 x26 x27 x28 x29 x30 x31 x32 x33 x34 x35 x36 x37 x38 x39 x40 x41 x42 x43 x44 x45 x46 x47 (.out j es))) = (law7_L24_2_A.nx, law7_L24_2_A.low) :=
  runs_of' (good true _ _) law7_L24_2_ok (ax := law7_L24_2_ax) (fun _ _ => rfl) (fun _ _ => axOf_end _) (law7_L24_2_S_ok ka ca kb cb kc cc kd cd tol x0 x1 x2 x3 x4 x5 x6 x7 x8 x9 x10 x11 x12 x13 x14 x15 x16 x17 x18 x19 x20 x21 x22 x23 x24 x25 x26 x27 x28 x29 x30 x31 x32 x33 x34 x35 x36 x37 x38 x39 x40 x41 x42 x43 x44 x45 x46 x47) h
theorem law7_L24_2_in0 (ka : Nat) (ca : List D) (kb : Nat) (cb : List D) (kc : Nat) (cc : List D) (kd : Nat) (cd : List D) (tol : Int) (x0 : Bool) (x1 : Bool) (x2 : Bool) (x3 : Int) (x4 : Int) (x5 : Bool) (x6 : Nat) (x7 : List D) (x8 : Nat) (x9 : List D) (x10 : Int) (x11 : Int) (x12 : Int) (x13 : Nat) (x14 : List D) (x15 : Nat) (x16 : List D) (x17 : Int) (x18 : Int) (x19 : Int) (x20 : Nat) (x21 : List D) (x22 : Nat) (x23 : List D) (x24 : Int) (x25 : Int) (x26 : Int) (x27 : Nat) (x28 : List D) (x29 : Nat) (x30 : List D) (x31 : Int) (x32 : Int) (x33 : Nat) (x34 : List D) (x35 : Nat) (x36 : List D) (x37 : Int) (x38 : Int) (x39 : Nat) (x40 : List D) (x41 : Nat) (x42 : List D) (x43 : Nat) (x44 : List D) (x45 : Nat) (x46 : List D) (x47 : Int) {es : List D} (h : runR (law7_L24_2_S ka ca kb cb kc cc kd cd tol x0 x1 x2 x3 x4 x5 x6 x7 x8 x9 x10 x11 x12 x13 x14 x15 x16 x17 x18 x19 x20 x21 x22 x23 x24 x25 x26 x27 x28 x29 x30 x31 x32 x33 x34 x35 x36 x37 x38 x39 x40 x41 x42 x43 x44 x45 x46 x47) (.next 0 [iD ((0 : Int))]) = some (.out 0 es)) : LoopC (loopAt Try.prog 7 2) (law7_L24_2_E ka ca kb cb kc cc kd cd tol x0 x1 x2 x3 x4 x5 x6 x7 x8 x9 x10 x11 x12 x13 x14 x15 x16 x17 x18 x19 x20 x21 x22 x23 x24 x25 x26 x27 x28 x29 x30 x31 x32 x33 x34 x35 x36 x37 x38 x39 x40 x41 x42 x43 x44 x45 x46 x47) 92 noFrame law7_x24_0 es :=
  have r := law7_L24_2_go ka ca kb cb kc cc kd cd tol x0 x1 x2 x3 x4 x5 x6 x7 x8 x9 x10 x11 x12 x13 x14 x15 x16 x17 x18 x19 x20 x21 x22 x23 x24 x25 x26 x27 x28 x29 x30 x31 x32 x33 x34 x35 x36 x37 x38 x39 x40 x41 x42 x43 x44 x45 x46 x47 h
  loopin_as rfl (loop_in (l := law7_L24_2_A) (E := (law7_L24_2_E ka ca kb cb kc cc kd cd tol x0 x1 x2 x3 x4 x5 x6 x7 x8 x9 x10 x11 x12 x13 x14 x15 x16 x17 x18 x19 x20 x21 x22 x23 x24 x25 x26 x27 x28 x29 x30 x31 x32 x33 x34 x35 x36 x37 x38 x39 x40 x41 x42 x43 x44 x45 x46 x47)) (S := stateOf (law7_L24_2_gs ka ca kb cb kc cc kd cd tol x0 x1 x2 x3 x4 x5 x6 x7 x8 x9 x10 x11 x12 x13 x14 x15 x16 x17 x18 x19 x20 x21 x22 x23 x24 x25 x26 x27 x28 x29 x30 x31 x32 x33 x34 x35 x36 x37 x38 x39 x40 x41 x42 x43 x44 x45 x46 x47 (.next 0 [iD ((0 : Int))]))) (ns := nsOf (law7_L24_2_gs ka ca kb cb kc cc kd cd tol x0 x1 x2 x3 x4 x5 x6 x7 x8 x9 x10 x11 x12 x13 x14 x15 x16 x17 x18 x19 x20 x21 x22 x23 x24 x25 x26 x27 x28 x29 x30 x31 x32 x33 x34 x35 x36 x37 x38 x39 x40 x41 x42 x43 x44 x45 x46 x47 (.next 0 [iD ((0 : Int))]))) law7_L24_2_ok r.1 r.2 (by kernel_rfl) (by kernel_rfl) (by kernel_rfl) (by kernel_rfl))
theorem law7_L24_2_in1 (ka : Nat) (ca : List D) (kb : Nat) (cb : List D) (kc : Nat) (cc : List D) (kd : Nat) (cd : List D) (tol : Int) (x0 : Bool) (x1 : Bool) (x2 : Bool) (x3 : Int) (x4 : Int) (x5 : Bool) (x6 : Nat) (x7 : List D) (x8 : Nat) (x9 : List D) (x10 : Int) (x11 : Int) (x12 : Int) (x13 : Nat) (x14 : List D) (x15 : Nat) (x16 : List D) (x17 : Int) (x18 : Int) (x19 : Int) (x20 : Nat) (x21 : List D) (x22 : Nat) (x23 : List D) (x24 : Int) (x25 : Int) (x26 : Int) (x27 : Nat) (x28 : List D) (x29 : Nat) (x30 : List D) (x31 : Int) (x32 : Int) (x33 : Nat) (x34 : List D) (x35 : Nat) (x36 : List D) (x37 : Int) (x38 : Int) (x39 : Nat) (x40 : List D) (x41 : Nat) (x42 : List D) (x43 : Nat) (x44 : List D) (x45 : Nat) (x46 : List D) (x47 : Int) {es : List D} (h : runR (law7_L24_2_S ka ca kb cb kc cc kd cd tol x0 x1 x2 x3 x4 x5 x6 x7 x8 x9 x10 x11 x12 x13 x14 x15 x16 x17 x18 x19 x20 x21 x22 x23 x24 x25 x26 x27 x28 x29 x30 x31 x32 x33 x34 x35 x36 x37 x38 x39 x40 x41 x42 x43 x44 x45 x46 x47) (.next 0 [iD ((0 : Int))]) = some (.out 1 es)) : LoopC (loopAt Try.prog 7 2) (law7_L24_2_E ka ca kb cb kc cc kd cd tol x0 x1 x2 x3 x4 x5 x6 x7 x8 x9 x10 x11 x12 x13 x14 x15 x16 x17 x18 x19 x20 x21 x22 x23 x24 x25 x26 x27 x28 x29 x30 x31 x32 x33 x34 x35 x36 x37 x38 x39 x40 x41 x42 x43 x44 x45 x46 x47) 92 noFrame law7_x24_1 es :=
  have r := law7_L24_2_go ka ca kb cb kc cc kd cd tol x0 x1 x2 x3 x4 x5 x6 x7 x8 x9 x10 x11 x12 x13 x14 x15 x16 x17 x18 x19 x20 x21 x22 x23 x24 x25 x26 x27 x28 x29 x30 x31 x32 x33 x34 x35 x36 x37 x38 x39 x40 x41 x42 x43 x44 x45 x46 x47 h
  loopin_as rfl (loop_in (l := law7_L24_2_A) (E := (law7_L24_2_E ka ca kb cb kc cc kd cd tol x0 x1 x2 x3 x4 x5 x6 x7 x8 x9 x10 x11 x12 x13 x14 x15 x16 x17 x18 x19 x20 x21 x22 x23 x24 x25 x26 x27 x28 x29 x30 x31 x32 x33 x34 x35 x36 x37 x38 x39 x40 x41 x42 x43 x44 x45 x46 x47)) (S := stateOf (law7_L24_2_gs ka ca kb cb kc cc kd cd tol x0 x1 x2 x3 x4 x5 x6 x7 x8 x9 x10 x11 x12 x13 x14 x15 x16 x17 x18 x19 x20 x21 x22 x23 x24 x25 x26 x27 x28 x29 x30 x31 x32 x33 x34 x35 x36 x37 x38 x39 x40 x41 x42 x43 x44 x45 x46 x47 (.next 0 [iD ((0 : Int))]))) (ns := nsOf (law7_L24_2_gs ka ca kb cb kc cc kd cd tol x0 x1 x2 x3 x4 x5 x6 x7 x8 x9 x10 x11 x12 x13 x14 x15 x16 x17 x18 x19 x20 x21 x22 x23 x24 x25 x26 x27 x28 x29 x30 x31 x32 x33 x34 x35 x36 x37 x38 x39 x40 x41 x42 x43 x44 x45 x46 x47 (.next 0 [iD ((0 : Int))]))) law7_L24_2_ok r.1 r.2 (by kernel_rfl) (by kernel_rfl) (by kernel_rfl) (by kernel_rfl))
def law7_L24_E (ka : Nat) (ca : List D) (kb : Nat) (cb : List D) (kc : Nat) (cc : List D) (kd : Nat) (cd : List D) (tol : Int) (x0 : Bool) (x1 : Bool) (x2 : Bool) (x3 : Int) (x4 : Int) (x5 : Bool) (x6 : Nat) (x7 : List D) (x8 : Nat) (x9 : List D) (x10 : Int) (x11 : Int) (x12 : Int) (x13 : Nat) (x14 : List D) (x15 : Nat) (x16 : List D) (x17 : Int) (x18 : Int) (x19 : Int) (x20 : Nat) (x21 : List D) (x22 : Nat) (x23 : List D) (x24 : Int) (x25 : Int) (x26 : Int) (x27 : Nat) (x28 : List D) (x29 : Nat) (x30 : List D) (x31 : Int) (x32 : Int) (x33 : Nat) (x34 : List D) (x35 : Nat) (x36 : List D) (x37 : Int) (x38 : Int) (x39 : Nat) (x40 : List D) (x41 : Nat) (x42 : List D) (x43 : Nat) (x44 : List D) (x45 : Nat) (x46 : List D) (x47 : Int) : List AV × AHeap := ([.agg [.dsl 0, .dsl 1], .agg [.dsl 2, .dsl 3], .pure (.int .i64 tol), .ptr 4 0, .ptr 5 0, .pure (.tuple #[]), .any 19, .ptr 8 0, .pure (.int .i64 x12), .ptr 11 0, .pure (.int .i64 x19), .ptr 14 0, .pure (.int .i64 x26), .pure (.int .i64 x31), .pure (.int .i64 x32), .pure (.int .i64 x37), .pure (.int .i64 x38), .any 20, .ptr 66 0, .pure (.int .i64 x47), .pure (.int .i64 (0 : Int)), .pure (.int .i64 (0 : Int)), .pure (.bool x0), .pure (.bool !x0), .agg [.dsl 0, .dsl 1], .pure (.bool x1), .pure (.bool !x1), .pure (.bool !x1), .agg [.dsl 2, .dsl 3], .pure (.bool x2), .pure (.bool !x2), .pure (.bool !x2), .pure (.bool !x2), .agg [.dsl 0, .dsl 1], .pure (.int .i64 x3), .pure (.bool (x3 != (0 : Int))), .pure (.bool (x3 != (0 : Int))), .pure (.bool (x3 != (0 : Int))), .agg [.dsl 2, .dsl 3], .pure (.int .i64 x4), .pure (.bool (x4 != (0 : Int))), .pure (.bool (x4 != (0 : Int))), .pure (.bool (x4 != (0 : Int))), .pure (.int .i64 tol), .pure (.bool x5), .pure (.bool !x5), .pure (.bool !x5), .pure (.bool !x5), .ptr 5 0, .dsl 2, .pure (.int .i64 (kc : Int)), .ptr 4 0, .dsl 0, .pure (.int .i64 (ka : Int)), .pure (.bool ((kc : Int) != (ka : Int))), .pure (.bool ((kc : Int) != (ka : Int))), .pure (.tuple #[.agg #[.int .i64 x10, .int .i64 x11], .int .i64 x12]), .agg [.dsl 0, .dsl 1], .agg [.dsl 6, .dsl 7], .pure (.int .i64 tol), .pure (.tuple #[.agg #[.int .i64 x10, .int .i64 x11], .int .i64 x12]), .pure (.agg #[.int .i64 x10, .int .i64 x11]), .pure (.int .i64 x12), .pure (.tuple #[.agg #[.int .i64 x17, .int .i64 x18], .int .i64 x19]), .agg [.dsl 0, .dsl 1], .agg [.dsl 9, .dsl 10], .pure (.int .i64 tol), .pure (.int .i64 (IntKind.i64.wrap (tol + (1 : Int)))), .pure (.tuple #[.agg #[.int .i64 x17, .int .i64 x18], .int .i64 x19]), .pure (.agg #[.int .i64 x17, .int .i64 x18]), .pure (.int .i64 x19), .pure (.tuple #[.agg #[.int .i64 x24, .int .i64 x25], .int .i64 x26]), .agg [.dsl 0, .dsl 1], .agg [.dsl 12, .dsl 13], .pure (.tuple #[.agg #[.int .i64 x24, .int .i64 x25], .int .i64 x26]), .pure (.agg #[.int .i64 x24, .int .i64 x25]), .pure (.int .i64 x26), .pure (.tuple #[.int .i64 x31, .int .i64 x32]), .agg [.dsl 0, .dsl 1], .agg [.dsl 15, .dsl 16], .pure (.tuple #[.int .i64 x31, .int .i64 x32]), .pure (.int .i64 x31), .pure (.int .i64 x32), .pure (.tuple #[.int .i64 x37, .int .i64 x38]), .agg [.dsl 0, .dsl 1], .agg [.dsl 17, .dsl 18], .pure (.tuple #[.int .i64 x37, .int .i64 x38]), .pure (.int .i64 x37), .pure (.int .i64 x38), .pure (.int .i64 x12), .pure (.bool (x12 != (0 : Int))), .pure (.bool (x12 != (0 : Int))), .pure (.int .i64 x19), .pure (.bool (x19 != (0 : Int))), .pure (.bool (x19 != (0 : Int))), .pure (.bool (x19 != (0 : Int))), .pure (.int .i64 x26), .pure (.bool (x26 != (0 : Int))), .pure (.bool (x26 != (0 : Int))), .pure (.bool (x26 != (0 : Int))), .pure (.int .i64 x32), .pure (.bool (x32 != (0 : Int))), .pure (.bool (x32 != (0 : Int))), .pure (.bool (x32 != (0 : Int))), .pure (.int .i64 x38), .pure (.bool (x38 != (0 : Int))), .pure (.bool (x38 != (0 : Int))), .pure (.bool (x38 != (0 : Int))), .pure (.agg #[.int .i64 x24, .int .i64 x25]), .pure (.int .i64 x31), .pure (.int .i64 x37), .pure (.agg #[.int .i64 x31, .int .i64 x37]), .pure (.bool !(x24 == x31 && (x25 == x37 && true))), .pure (.bool !(x24 == x31 && (x25 == x37 && true))), .pure (.bool !(x24 == x31 && (x25 == x37 && true))), .ptr 8 0, .pure (.int .i64 x10), .ptr 11 0, .pure (.int .i64 x17), .pure (.bool (decide (x10 > x17))), .pure (.bool (decide (x10 > x17))), .pure (.bool (decide (x10 > x17))), .ptr 8 1, .pure (.int .i64 x11), .ptr 11 1, .pure (.int .i64 x18), .pure (.bool (decide (x11 > x18))), .pure (.bool (decide (x11 > x18))), .pure (.bool (decide (x11 > x18))), .ptr 8 0, .pure (.int .i64 x10), .pure (.int .i64 x31), .pure (.bool (decide (x10 < x31))), .pure (.bool (decide (x10 < x31))), .pure (.bool (decide (x10 < x31))), .ptr 8 1, .pure (.int .i64 x11), .pure (.int .i64 x37), .pure (.bool (decide (x11 < x37))), .pure (.bool (decide (x11 < x37))), .any 21, .any 22, .any 23, .any 24, .any 25, .any 26, .any 27, .any 28, .any 29, .any 30, .any 31, .any 32, .any 33, .any 34, .any 35, .any 36, .any 37, .any 38, .any 39, .any 40, .any 41, .any 42, .any 43, .any 44, .any 45, .any 46, .any 47, .any 48, .any 49, .any 50, .any 51, .any 52, .any 53, .any 54, .any 55, .any 56, .any 57, .any 58, .any 59, .any 60, .any 61, .tuple [.agg [.dsl 64, .dsl 65], .pure (.int .i64 x47)], .agg [.dsl 2, .dsl 3], .agg [.dsl 62, .dsl 63], .tuple [.agg [.dsl 64, .dsl 65], .pure (.int .i64 x47)], .agg [.dsl 64, .dsl 65], .pure (.int .i64 x47), .pure (.int .i64 x47), .pure (.bool (x47 != (0 : Int))), .pure (.int .i64 (0 : Int)), .pure (.bool true), .pure (.tuple #[]), .pure (.tuple #[]), .pure (.tuple #[]), .pure (.tuple #[]), .pure (.tuple #[]), .pure (.tuple #[]), .pure (.tuple #[]), .pure (.tuple #[]), .pure (.tuple #[]), .pure (.tuple #[]), .pure (.tuple #[]), .pure (.tuple #[]), .pure (.tuple #[]), .pure (.tuple #[]), .pure (.tuple #[]), .pure (.tuple #[]), .pure (.tuple #[]), .pure (.tuple #[]), .pure (.tuple #[]), .pure (.tuple #[]), .pure (.tuple #[]), .pure (.tuple #[]), .pure (.tuple #[]), .pure (.tuple #[]), .pure (.tuple #[])], [(66, { cells := [.dsl 64, .dsl 65], opn := none, kind := .cells }), (65, { cells := [], opn := none, kind := .deep x45 x46 }), (64, { cells := [], opn := none, kind := .deep x43 x44 }), (63, { cells := [], opn := none, kind := .deep x41 x42 }), (62, { cells := [], opn := none, kind := .deep x39 x40 }), (18, { cells := [], opn := none, kind := .deep x35 x36 }), (17, { cells := [], opn := none, kind := .deep x33 x34 }), (16, { cells := [], opn := none, kind := .deep x29 x30 }), (15, { cells := [], opn := none, kind := .deep x27 x28 }), (14, { cells := [.pure (.int .i64 x24), .pure (.int .i64 x25)], opn := none, kind := .cells }), (13, { cells := [], opn := none, kind := .deep x22 x23 }), (12, { cells := [], opn := none, kind := .deep x20 x21 }), (11, { cells := [.pure (.int .i64 x17), .pure (.int .i64 x18)], opn := none, kind := .cells }), (10, { cells := [], opn := none, kind := .deep x15 x16 }), (9, { cells := [], opn := none, kind := .deep x13 x14 }), (8, { cells := [.pure (.int .i64 x10), .pure (.int .i64 x11)], opn := none, kind := .cells }), (7, { cells := [], opn := none, kind := .deep x8 x9 }), (6, { cells := [], opn := none, kind := .deep x6 x7 }), (5, { cells := [.dsl 2, .dsl 3], opn := none, kind := .cells }), (4, { cells := [.dsl 0, .dsl 1], opn := none, kind := .cells }), (3, { cells := [], opn := none, kind := .deep kd cd }), (2, { cells := [], opn := none, kind := .deep kc cc }), (1, { cells := [], opn := none, kind := .deep kb cb }), (0, { cells := [], opn := none, kind := .deep ka ca })])
def law7_L24_A : LoopAt := ⟨7, loopAt Try.prog 7 2, 67, 92, 67, noFrame⟩
theorem law7_L24_ok : (law7_L24_A).OK := ⟨by show 67 ≤ 92; decide, by show 67 ≤ 67; decide, by kernel_rfl, rfl⟩
def law7_L24_gs (ka : Nat) (ca : List D) (kb : Nat) (cb : List D) (kc : Nat) (cc : List D) (kd : Nat) (cd : List D) (tol : Int) (x0 : Bool) (x1 : Bool) (x2 : Bool) (x3 : Int) (x4 : Int) (x5 : Bool) (x6 : Nat) (x7 : List D) (x8 : Nat) (x9 : List D) (x10 : Int) (x11 : Int) (x12 : Int) (x13 : Nat) (x14 : List D) (x15 : Nat) (x16 : List D) (x17 : Int) (x18 : Int) (x19 : Int) (x20 : Nat) (x21 : List D) (x22 : Nat) (x23 : List D) (x24 : Int) (x25 : Int) (x26 : Int) (x27 : Nat) (x28 : List D) (x29 : Nat) (x30 : List D) (x31 : Int) (x32 : Int) (x33 : Nat) (x34 : List D) (x35 : Nat) (x36 : List D) (x37 : Int) (x38 : Int) (x39 : Nat) (x40 : List D) (x41 : Nat) (x42 : List D) (x43 : Nat) (x44 : List D) (x45 : Nat) (x46 : List D) (x47 : Int) : Go.Ev.Rd → Option GS
  | .next 0 ds => ghost [.val 21] (6 :: (List.range' 193 23)) (law7_L24_E ka ca kb cb kc cc kd cd tol x0 x1 x2 x3 x4 x5 x6 x7 x8 x9 x10 x11 x12 x13 x14 x15 x16 x17 x18 x19 x20 x21 x22 x23 x24 x25 x26 x27 x28 x29 x30 x31 x32 x33 x34 x35 x36 x37 x38 x39 x40 x41 x42 x43 x44 x45 x46 x47).1 (law7_L24_E ka ca kb cb kc cc kd cd tol x0 x1 x2 x3 x4 x5 x6 x7 x8 x9 x10 x11 x12 x13 x14 x15 x16 x17 x18 x19 x20 x21 x22 x23 x24 x25 x26 x27 x28 x29 x30 x31 x32 x33 x34 x35 x36 x37 x38 x39 x40 x41 x42 x43 x44 x45 x46 x47).2 67 ds
  | .out 0 ds => ghost law7_x24_0.live law7_x24_0.junk (law7_L24_E ka ca kb cb kc cc kd cd tol x0 x1 x2 x3 x4 x5 x6 x7 x8 x9 x10 x11 x12 x13 x14 x15 x16 x17 x18 x19 x20 x21 x22 x23 x24 x25 x26 x27 x28 x29 x30 x31 x32 x33 x34 x35 x36 x37 x38 x39 x40 x41 x42 x43 x44 x45 x46 x47).1 (law7_L24_E ka ca kb cb kc cc kd cd tol x0 x1 x2 x3 x4 x5 x6 x7 x8 x9 x10 x11 x12 x13 x14 x15 x16 x17 x18 x19 x20 x21 x22 x23 x24 x25 x26 x27 x28 x29 x30 x31 x32 x33 x34 x35 x36 x37 x38 x39 x40 x41 x42 x43 x44 x45 x46 x47).2 67 ds
  | .out 1 ds => ghost law7_x24_1.live law7_x24_1.junk (law7_L24_E ka ca kb cb kc cc kd cd tol x0 x1 x2 x3 x4 x5 x6 x7 x8 x9 x10 x11 x12 x13 x14 x15 x16 x17 x18 x19 x20 x21 x22 x23 x24 x25 x26 x27 x28 x29 x30 x31 x32 x33 x34 x35 x36 x37 x38 x39 x40 x41 x42 x43 x44 x45 x46 x47).1 (law7_L24_E ka ca kb cb kc cc kd cd tol x0 x1 x2 x3 x4 x5 x6 x7 x8 x9 x10 x11 x12 x13 x14 x15 x16 x17 x18 x19 x20 x21 x22 x23 x24 x25 x26 x27 x28 x29 x30 x31 x32 x33 x34 x35 x36 x37 x38 x39 x40 x41 x42 x43 x44 x45 x46 x47).2 67 ds
  | _ => none
def law7_L24_ex : Nat → Option Nat
  | 0 => law7_x24_0.ex
  | 1 => law7_x24_1.ex
  | _ => none
def law7_L24_ax : Go.Ev.Rd → AX
  | .next _ _ => .normal
  | .out j _ => axOf (law7_L24_ex j)
def law7_L24_S0 (ka : Nat) (ca : List D) (kb : Nat) (cb : List D) (kc : Nat) (cc : List D) (kd : Nat) (cd : List D) (tol : Int) (x0 : Bool) (x1 : Bool) (x2 : Bool) (x3 : Int) (x4 : Int) (x5 : Bool) (x6 : Nat) (x7 : List D) (x8 : Nat) (x9 : List D) (x10 : Int) (x11 : Int) (x12 : Int) (x13 : Nat) (x14 : List D) (x15 : Nat) (x16 : List D) (x17 : Int) (x18 : Int) (x19 : Int) (x20 : Nat) (x21 : List D) (x22 : Nat) (x23 : List D) (x24 : Int) (x25 : Int) (x26 : Int) (x27 : Nat) (x28 : List D) (x29 : Nat) (x30 : List D) (x31 : Int) (x32 : Int) (x33 : Nat) (x34 : List D) (x35 : Nat) (x36 : List D) (x37 : Int) (x38 : Int) (x39 : Nat) (x40 : List D) (x41 : Nat) (x42 : List D) (x43 : Nat) (x44 : List D) (x45 : Nat) (x46 : List D) (x47 : Int) (ds : List D) : Option Go.Ev.Rd := pullD (α := Int) (some (.tup ds)) (fun d => ((D.vi (D.at d 0)))) (fun s21 => .tup [iD s21]) fun s21 => ((if s21 < (x43 : Int) then guardP ((0 : Int) ≤ s21 ∧ s21.toNat < x43) (pullD (α := Int) (readD x44 (s21.toNat * 1) 1 false) (fun d => ((D.vi d))) (fun v0 => iD v0) fun v0 => (pullD (α := Bool) (m_25 [iD v0, iD (IntKind.i64.wrap ((0 : Int) - x10)), iD x10]) (fun d => ((D.vb d))) (fun r1 => .one (.bool r1)) fun r1 => ((if r1 = false then some (.out 1 [.one (.bool false)]) else some (.next 0 [iD (IntKind.i64.wrap (s21 + (1 : Int)))]))))) else some (.out 0 [])))
def law7_L24_S (ka : Nat) (ca : List D) (kb : Nat) (cb : List D) (kc : Nat) (cc : List D) (kd : Nat) (cd : List D) (tol : Int) (x0 : Bool) (x1 : Bool) (x2 : Bool) (x3 : Int) (x4 : Int) (x5 : Bool) (x6 : Nat) (x7 : List D) (x8 : Nat) (x9 : List D) (x10 : Int) (x11 : Int) (x12 : Int) (x13 : Nat) (x14 : List D) (x15 : Nat) (x16 : List D) (x17 : Int) (x18 : Int) (x19 : Int) (x20 : Nat) (x21 : List D) (x22 : Nat) (x23 : List D) (x24 : Int) (x25 : Int) (x26 : Int) (x27 : Nat) (x28 : List D) (x29 : Nat) (x30 : List D) (x31 : Int) (x32 : Int) (x33 : Nat) (x34 : List D) (x35 : Nat) (x36 : List D) (x37 : Int) (x38 : Int) (x39 : Nat) (x40 : List D) (x41 : Nat) (x42 : List D) (x43 : Nat) (x44 : List D) (x45 : Nat) (x46 : List D) (x47 : Int) : Go.Ev.Rd → Option Go.Ev.Rd
  | .next 0 ds => law7_L24_S0 ka ca kb cb kc cc kd cd tol x0 x1 x2 x3 x4 x5 x6 x7 x8 x9 x10 x11 x12 x13 x14 x15 x16 x17 x18 x19 x20 x21 x22 x23 x24 x25 x26 x27 x28 x29 x30 x31 x32 x33 x34 x35 x36 x37 x38 x39 x40 x41 x42 x43 x44 x45 x46 x47 ds
  | _ => none
theorem law7_L24_S_ok (ka : Nat) (ca : List D) (kb : Nat) (cb : List D) (kc : Nat) (cc : List D) (kd : Nat) (cd : List D) (tol : Int) (x0 : Bool) (x1 : Bool) (x2 : Bool) (x3 : Int) (x4 : Int) (x5 : Bool) (x6 : Nat) (x7 : List D) (x8 : Nat) (x9 : List D) (x10 : Int) (x11 : Int) (x12 : Int) (x13 : Nat) (x14 : List D) (x15 : Nat) (x16 : List D) (x17 : Int) (x18 : Int) (x19 : Int) (x20 : Nat) (x21 : List D) (x22 : Nat) (x23 : List D) (x24 : Int) (x25 : Int) (x26 : Int) (x27 : Nat) (x28 : List D) (x29 : Nat) (x30 : List D) (x31 : Int) (x32 : Int) (x33 : Nat) (x34 : List D) (x35 : Nat) (x36 : List D) (x37 : Int) (x38 : Int) (x39 : Nat) (x40 : List D) (x41 : Nat) (x42 : List D) (x43 : Nat) (x44 : List D) (x45 : Nat) (x46 : List D) (x47 : Int) : ∀ s_ t_, law7_L24_S ka ca kb cb kc cc kd cd tol x0 x1 x2 x3 x4 x5 x6 x7 x8 x9 x10 x11 x12 x13 x14 x15 x16 x17 x18 x19 x20 x21 x22 x23 x24 x25 x26 x27 x28 x29 x30 x31 x32 x33 x34 x35 x36 x37 x38 x39 x40 x41 x42 x43 x44 x45 x46 x47 s_ = some t_ → Step (ctx [7] law7_sp) Tabs law7_L24_A (stateOf (law7_L24_gs ka ca kb cb kc cc kd cd tol x0 x1 x2 x3 x4 x5 x6 x7 x8 x9 x10 x11 x12 x13 x14 x15 x16 x17 x18 x19 x20 x21 x22 x23 x24 x25 x26 x27 x28 x29 x30 x31 x32 x33 x34 x35 x36 x37 x38 x39 x40 x41 x42 x43 x44 x45 x46 x47 s_)) (stateOf (law7_L24_gs ka ca kb cb kc cc kd cd tol x0 x1 x2 x3 x4 x5 x6 x7 x8 x9 x10 x11 x12 x13 x14 x15 x16 x17 x18 x19 x20 x21 x22 x23 x24 x25 x26 x27 x28 x29 x30 x31 x32 x33 x34 x35 x36 x37 x38 x39 x40 x41 x42 x43 x44 x45 x46 x47 t_)) (law7_L24_ax t_) ∧ EndOK law7_L24_A.nx law7_L24_A.low (law7_L24_gs ka ca kb cb kc cc kd cd tol x0 x1 x2 x3 x4 x5 x6 x7 x8 x9 x10 x11 x12 x13 x14 x15 x16 x17 x18 x19 x20 x21 x22 x23 x24 x25 x26 x27 x28 x29 x30 x31 x32 x33 x34 x35 x36 x37 x38 x39 x40 x41 x42 x43 x44 x45 x46 x47) t_
  | .next 0 ds, t_, h => by
    have h_ : law7_L24_S0 ka ca kb cb kc cc kd cd tol x0 x1 x2 x3 x4 x5 x6 x7 x8 x9 x10 x11 x12 x13 x14 x15 x16 x17 x18 x19 x20 x21 x22 x23 x24 x25 x26 x27 x28 x29 x30 x31 x32 x33 x34 x35 x36 x37 x38 x39 x40 x41 x42 x43 x44 x45 x46 x47 ds = some t_ := h
    clear h
    unfold law7_L24_S0 at h_
    obtain ⟨s21, e0, h0⟩ := pullD_elim h_
    clear h_
    obtain rfl := tup_inj e0
    by_cases b1_ : s21 < (x43 : Int)
    · have h2_ := (if_pos b1_).symm.trans h0
      obtain ⟨f3_, h4_⟩ := guardP_elim h2_
      obtain ⟨v0, f5_, h6_⟩ := pullD_elim h4_
      replace f5_ := readD_elim f5_
      obtain ⟨r1, f7_, h8_⟩ := pullD_elim h6_
      replace f7_ := m_25_ok f7_
      by_cases b9_ : r1 = false
      · have h10_ := (if_pos b9_).symm.trans h8_
        obtain rfl := Option.some.inj h10_
        exact ⟨step_pc 3000 (bT 2 []) [iD v0, .one (.bool r1)] [c_d b1_, c_f f3_, c_f f5_, c_no b9_] [k_c f7_] _ rfl (by kernel_rfl) (by kernel_rfl) (by kernel_rfl) (by kernel_rfl) (by kernel_rfl) (by kernel_rfl), by kernel_rfl, by kernel_rfl⟩
      have h10_ := (if_neg b9_).symm.trans h8_
      have b11_ : r1 = true := by first | exact b9_ | simpa using b9_
      obtain rfl := Option.some.inj h10_
      exact ⟨step_pc 3000 (bT 1 (bF 1 [])) [iD v0, .one (.bool r1)] [c_d b1_, c_f f3_, c_f f5_, c_nn b11_] [k_c f7_] _ rfl (by kernel_rfl) (by kernel_rfl) (by kernel_rfl) (by kernel_rfl) (by kernel_rfl) (by kernel_rfl), trivial⟩
    have h2_ := (if_neg b1_).symm.trans h0
    obtain rfl := Option.some.inj h2_
    exact ⟨step_pc 3000 (bF 1 []) [] [c_n b1_] [] _ rfl (by kernel_rfl) (by kernel_rfl) (by kernel_rfl) (by kernel_rfl) (by kernel_rfl) (by kernel_rfl), by kernel_rfl, by kernel_rfl⟩
  | .next (_ + 1) _, _, h => by cases h
  | .out _ _, _, h => by cases h
theorem law7_L24_go (ka : Nat) (ca : List D) (kb : Nat) (cb : List D) (kc : Nat) (cc : List D) (kd : Nat) (cd : List D) (tol : Int) (x0 : Bool) (x1 : Bool) (x2 : Bool) (x3 : Int) (x4 : Int) (x5 : Bool) (x6 : Nat) (x7 : List D) (x8 : Nat) (x9 : List D) (x10 : Int) (x11 : Int) (x12 : Int) (x13 : Nat) (x14 : List D) (x15 : Nat) (x16 : List D) (x17 : Int) (x18 : Int) (x19 : Int) (x20 : Nat) (x21 : List D) (x22 : Nat) (x23 : List D) (x24 : Int) (x25 : Int) (x26 : Int) (x27 : Nat) (x28 : List D) (x29 : Nat) (x30 : List D) (x31 : Int) (x32 : Int) (x33 : Nat) (x34 : List D) (x35 : Nat) (x36 : List D) (x37 : Int) (x38 : Int) (x39 : Nat) (x40 : List D) (x41 : Nat) (x42 : List D) (x43 : Nat) (x44 : List D) (x45 : Nat) (x46 : List D) (x47 : Int) {q : Nat} {ds : List D} {j : Nat} {es : List D} (h : runR (law7_L24_S ka ca kb cb kc cc kd cd tol x0 x1 x2 x3 x4 x5 x6 x7 x8 x9 x10 x11 x12 x13 x14 x15 x16 x17 x18 x19 x20 x21 x22 x23 x24 x25 x26 x27 x28 x29 x30 x31 x32 x33 x34 x35 x36 x37 x38 x39 x40 x41 x42 x43 x44 x45 x46 x47) (.next q ds) = some (.out j es)) : Runs (ctx [7] law7_sp) Tabs law7_L24_A (stateOf (law7_L24_gs ka ca kb cb kc cc kd cd tol x0 x1 x2 x3 x4 x5 x6 x7 x8 x9 x10 x11 x12 x13 x14 x15 x16 x17 x18 x19 x20 x21 x22 x23 x24 x25 x26 x27 x28 x29 x30 x31 x32 x33 x34 x35 x36 x37 x38 x39 x40 x41 x42 x43 x44 x45 x46 x47 (.next q ds))) (stateOf (law7_L24_gs ka ca kb cb kc cc kd cd tol x0 x1 x2 x3 x4 x5 x6 x7 x8 x9 x10 x11 x12 x13 x14 x15 x16 x17 x18 x19 x20 x21 x22 x23 x24 x25 x26 x27 x28 x29 x30 x31 x32 x33 x34 x35 x36 x37 x38 x39 x40 x41 x42 x43 x44 x45 x46 x47 (.out j es))) (law7_L24_ax (.out j es)) ∧ (nxtOf (law7_L24_gs ka ca kb cb kc cc kd cd tol x0 x1 x2 x3 x4 x5 x6 x7 x8 x9 x10 x11 x12 x13 x14 x15 x16 x17 x18 x19 x20 x21 x22 x23 x24 x25 x26 x27 x28 x29 x30 x31 x32 x33 x34 x35 x36 x37 x38 x39 x40 x41 x42 x43 x44 x45 x46 x47 (.out j es)), lowGS (law7_L24_gs ka ca kb cb kc cc kd cd tol x0 x1 x2 x3 x4 x5 x6 x7 x8 x9 x10 x11 x12 x13 x14 x15 x16 x17 x18 x19 x20 x21 x22 x23 x24 x25 x26 x27 x28 x29 x30 x31 x32 x33 x34 x35 x36 x37 x38 x39 x40 x41 x42 x43 x44 x45 x46 x47 (.out j es))) = (law7_L24_A.nx, law7_L24_A.low) :=
  runs_of' (good true _ _) law7_L24_ok (ax := law7_L24_ax) (fun _ _ => rfl) (fun _ _ => axOf_end _) (law7_L24_S_ok ka ca kb cb kc cc kd cd tol x0 x1 x2 x3 x4 x5 x6 x7 x8 x9 x10 x11 x12 x13 x14 x15 x16 x17 x18 x19 x20 x21 x22 x23 x24 x25 x26 x27 x28 x29 x30 x31 x32 x33 x34 x35 x36 x37 x38 x39 x40 x41 x42 x43 x44 x45 x46 x47) h
theorem law7_L24_in0 (ka : Nat) (ca : List D) (kb : Nat) (cb : List D) (kc : Nat) (cc : List D) (kd : Nat) (cd : List D) (tol : Int) (x0 : Bool) (x1 : Bool) (x2 : Bool) (x3 : Int) (x4 : Int) (x5 : Bool) (x6 : Nat) (x7 : List D) (x8 : Nat) (x9 : List D) (x10 : Int) (x11 : Int) (x12 : Int) (x13 : Nat) (x14 : List D) (x15 : Nat) (x16 : List D) (x17 : Int) (x18 : Int) (x19 : Int) (x20 : Nat) (x21 : List D) (x22 : Nat) (x23 : List D) (x24 : Int) (x25 : Int) (x26 : Int) (x27 : Nat) (x28 : List D) (x29 : Nat) (x30 : List D) (x31 : Int) (x32 : Int) (x33 : Nat) (x34 : List D) (x35 : Nat) (x36 : List D) (x37 : Int) (x38 : Int) (x39 : Nat) (x40 : List D) (x41 : Nat) (x42 : List D) (x43 : Nat) (x44 : List D) (x45 : Nat) (x46 : List D) (x47 : Int) {es : List D} (h : runR (law7_L24_S ka ca kb cb kc cc kd cd tol x0 x1 x2 x3 x4 x5 x6 x7 x8 x9 x10 x11 x12 x13 x14 x15 x16 x17 x18 x19 x20 x21 x22 x23 x24 x25 x26 x27 x28 x29 x30 x31 x32 x33 x34 x35 x36 x37 x38 x39 x40 x41 x42 x43 x44 x45 x46 x47) (.next 0 [iD ((0 : Int))]) = some (.out 0 es)) : LoopC (loopAt Try.prog 7 2) (law7_L24_E ka ca kb cb kc cc kd cd tol x0 x1 x2 x3 x4 x5 x6 x7 x8 x9 x10 x11 x12 x13 x14 x15 x16 x17 x18 x19 x20 x21 x22 x23 x24 x25 x26 x27 x28 x29 x30 x31 x32 x33 x34 x35 x36 x37 x38 x39 x40 x41 x42 x43 x44 x45 x46 x47) 67 noFrame law7_x24_0 es :=
  have r := law7_L24_go ka ca kb cb kc cc kd cd tol x0 x1 x2 x3 x4 x5 x6 x7 x8 x9 x10 x11 x12 x13 x14 x15 x16 x17 x18 x19 x20 x21 x22 x23 x24 x25 x26 x27 x28 x29 x30 x31 x32 x33 x34 x35 x36 x37 x38 x39 x40 x41 x42 x43 x44 x45 x46 x47 h
  loopin_as rfl (loop_in (l := law7_L24_A) (E := (law7_L24_E ka ca kb cb kc cc kd cd tol x0 x1 x2 x3 x4 x5 x6 x7 x8 x9 x10 x11 x12 x13 x14 x15 x16 x17 x18 x19 x20 x21 x22 x23 x24 x25 x26 x27 x28 x29 x30 x31 x32 x33 x34 x35 x36 x37 x38 x39 x40 x41 x42 x43 x44 x45 x46 x47)) (S := stateOf (law7_L24_gs ka ca kb cb kc cc kd cd tol x0 x1 x2 x3 x4 x5 x6 x7 x8 x9 x10 x11 x12 x13 x14 x15 x16 x17 x18 x19 x20 x21 x22 x23 x24 x25 x26 x27 x28 x29 x30 x31 x32 x33 x34 x35 x36 x37 x38 x39 x40 x41 x42 x43 x44 x45 x46 x47 (.next 0 [iD ((0 : Int))]))) (ns := nsOf (law7_L24_gs ka ca kb cb kc cc kd cd tol x0 x1 x2 x3 x4 x5 x6 x7 x8 x9 x10 x11 x12 x13 x14 x15 x16 x17 x18 x19 x20 x21 x22 x23 x24 x25 x26 x27 x28 x29 x30 x31 x32 x33 x34 x35 x36 x37 x38 x39 x40 x41 x42 x43 x44 x45 x46 x47 (.next 0 [iD ((0 : Int))]))) law7_L24_ok r.1 r.2 (by kernel_rfl) (by kernel_rfl) (by kernel_rfl) (by kernel_rfl))
theorem law7_L24_in1 (ka : Nat) (ca : List D) (kb : Nat) (cb : List D) (kc : Nat) (cc : List D) (kd : Nat) (cd : List D) (tol : Int) (x0 : Bool) (x1 : Bool) (x2 : Bool) (x3 : Int) (x4 : Int) (x5 : Bool) (x6 : Nat) (x7 : List D) (x8 : Nat) (x9 : List D) (x10 : Int) (x11 : Int) (x12 : Int) (x13 : Nat) (x14 : List D) (x15 : Nat) (x16 : List D) (x17 : Int) (x18 : Int) (x19 : Int) (x20 : Nat) (x21 : List D) (x22 : Nat) (x23 : List D) (x24 : Int) (x25 : Int) (x26 : Int) (x27 : Nat) (x28 : List D) (x29 : Nat) (x30 : List D) (x31 : Int) (x32 : Int) (x33 : Nat) (x34 : List D) (x35 : Nat) (x36 : List D) (x37 : Int) (x38 : Int) (x39 : Nat) (x40 : List D) (x41 : Nat) (x42 : List D) (x43 : Nat) (x44 : List D) (x45 : Nat) (x46 : List D) (x47 : Int) {es : List D} (h : runR (law7_L24_S ka ca kb cb kc cc kd cd tol x0 x1 x2 x3 x4 x5 x6 x7 x8 x9 x10 x11 x12 x13 x14 x15 x16 x17 x18 x19 x20 x21 x22 x23 x24 x25 x26 x27 x28 x29 x30 x31 x32 x33 x34 x35 x36 x37 x38 x39 x40 x41 x42 x43 x44 x45 x46 x47) (.next 0 [iD ((0 : Int))]) = some (.out 1 es)) : LoopC (loopAt Try.prog 7 2) (law7_L24_E ka ca kb cb kc cc kd cd tol x0 x1 x2 x3 x4 x5 x6 x7 x8 x9 x10 x11 x12 x13 x14 x15 x16 x17 x18 x19 x20 x21 x22 x23 x24 x25 x26 x27 x28 x29 x30 x31 x32 x33 x34 x35 x36 x37 x38 x39 x40 x41 x42 x43 x44 x45 x46 x47) 67 noFrame law7_x24_1 es :=
  have r := law7_L24_go ka ca kb cb kc cc kd cd tol x0 x1 x2 x3 x4 x5 x6 x7 x8 x9 x10 x11 x12 x13 x14 x15 x16 x17 x18 x19 x20 x21 x22 x23 x24 x25 x26 x27 x28 x29 x30 x31 x32 x33 x34 x35 x36 x37 x38 x39 x40 x41 x42 x43 x44 x45 x46 x47 h
  loopin_as rfl (loop_in (l := law7_L24_A) (E := (law7_L24_E ka ca kb cb kc cc kd cd tol x0 x1 x2 x3 x4 x5 x6 x7 x8 x9 x10 x11 x12 x13 x14 x15 x16 x17 x18 x19 x20 x21 x22 x23 x24 x25 x26 x27 x28 x29 x30 x31 x32 x33 x34 x35 x36 x37 x38 x39 x40 x41 x42 x43 x44 x45 x46 x47)) (S := stateOf (law7_L24_gs ka ca kb cb kc cc kd cd tol x0 x1 x2 x3 x4 x5 x6 x7 x8 x9 x10 x11 x12 x13 x14 x15 x16 x17 x18 x19 x20 x21 x22 x23 x24 x25 x26 x27 x28 x29 x30 x31 x32 x33 x34 x35 x36 x37 x38 x39 x40 x41 x42 x43 x44 x45 x46 x47 (.next 0 [iD ((0 : Int))]))) (ns := nsOf (law7_L24_gs ka ca kb cb kc cc kd cd tol x0 x1 x2 x3 x4 x5 x6 x7 x8 x9 x10 x11 x12 x13 x14 x15 x16 x17 x18 x19 x20 x21 x22 x23 x24 x25 x26 x27 x28 x29 x30 x31 x32 x33 x34 x35 x36 x37 x38 x39 x40 x41 x42 x43 x44 x45 x46 x47 (.next 0 [iD ((0 : Int))]))) law7_L24_ok r.1 r.2 (by kernel_rfl) (by kernel_rfl) (by kernel_rfl) (by kernel_rfl))
def law7_L13_E (ka : Nat) (ca : List D) (kb : Nat) (cb : List D) (kc : Nat) (cc : List D) (kd : Nat) (cd : List D) (tol : Int) (x0 : Bool) (x1 : Bool) (x2 : Bool) (x3 : Int) (x4 : Int) (x5 : Bool) (x6 : Nat) (x7 : List D) (x8 : Nat) (x9 : List D) (x10 : Int) (x11 : Int) (x12 : Int) (x13 : Nat) (x14 : List D) (x15 : Nat) (x16 : List D) (x17 : Int) (x18 : Int) (x19 : Int) (x20 : Nat) (x21 : List D) (x22 : Nat) (x23 : List D) (x24 : Int) (x25 : Int) (x26 : Int) (x27 : Nat) (x28 : List D) (x29 : Nat) (x30 : List D) (x31 : Int) (x32 : Int) (x33 : Nat) (x34 : List D) (x35 : Nat) (x36 : List D) (x37 : Int) (x38 : Int) : List AV × AHeap := ([.agg [.dsl 0, .dsl 1], .agg [.dsl 2, .dsl 3], .pure (.int .i64 tol), .ptr 4 0, .ptr 5 0, .pure (.tuple #[]), .pure (.bool false), .ptr 8 0, .pure (.int .i64 x12), .ptr 11 0, .pure (.int .i64 x19), .ptr 14 0, .pure (.int .i64 x26), .pure (.int .i64 x31), .pure (.int .i64 x32), .pure (.int .i64 x37), .pure (.int .i64 x38), .pure (.int .i64 (0 : Int)), .pure (.tuple #[]), .pure (.tuple #[]), .pure (.tuple #[]), .pure (.tuple #[]), .pure (.bool x0), .pure (.bool !x0), .agg [.dsl 0, .dsl 1], .pure (.bool x1), .pure (.bool !x1), .pure (.bool !x1), .agg [.dsl 2, .dsl 3], .pure (.bool x2), .pure (.bool !x2), .pure (.bool !x2), .pure (.bool !x2), .agg [.dsl 0, .dsl 1], .pure (.int .i64 x3), .pure (.bool (x3 != (0 : Int))), .pure (.bool (x3 != (0 : Int))), .pure (.bool (x3 != (0 : Int))), .agg [.dsl 2, .dsl 3], .pure (.int .i64 x4), .pure (.bool (x4 != (0 : Int))), .pure (.bool (x4 != (0 : Int))), .pure (.bool (x4 != (0 : Int))), .pure (.int .i64 tol), .pure (.bool x5), .pure (.bool !x5), .pure (.bool !x5), .pure (.bool !x5), .ptr 5 0, .dsl 2, .pure (.int .i64 (kc : Int)), .ptr 4 0, .dsl 0, .pure (.int .i64 (ka : Int)), .pure (.bool ((kc : Int) != (ka : Int))), .pure (.bool ((kc : Int) != (ka : Int))), .pure (.tuple #[.agg #[.int .i64 x10, .int .i64 x11], .int .i64 x12]), .agg [.dsl 0, .dsl 1], .agg [.dsl 6, .dsl 7], .pure (.int .i64 tol), .pure (.tuple #[.agg #[.int .i64 x10, .int .i64 x11], .int .i64 x12]), .pure (.agg #[.int .i64 x10, .int .i64 x11]), .pure (.int .i64 x12), .pure (.tuple #[.agg #[.int .i64 x17, .int .i64 x18], .int .i64 x19]), .agg [.dsl 0, .dsl 1], .agg [.dsl 9, .dsl 10], .pure (.int .i64 tol), .pure (.int .i64 (IntKind.i64.wrap (tol + (1 : Int)))), .pure (.tuple #[.agg #[.int .i64 x17, .int .i64 x18], .int .i64 x19]), .pure (.agg #[.int .i64 x17, .int .i64 x18]), .pure (.int .i64 x19), .pure (.tuple #[.agg #[.int .i64 x24, .int .i64 x25], .int .i64 x26]), .agg [.dsl 0, .dsl 1], .agg [.dsl 12, .dsl 13], .pure (.tuple #[.agg #[.int .i64 x24, .int .i64 x25], .int .i64 x26]), .pure (.agg #[.int .i64 x24, .int .i64 x25]), .pure (.int .i64 x26), .pure (.tuple #[.int .i64 x31, .int .i64 x32]), .agg [.dsl 0, .dsl 1], .agg [.dsl 15, .dsl 16], .pure (.tuple #[.int .i64 x31, .int .i64 x32]), .pure (.int .i64 x31), .pure (.int .i64 x32), .pure (.tuple #[.int .i64 x37, .int .i64 x38]), .agg [.dsl 0, .dsl 1], .agg [.dsl 17, .dsl 18], .pure (.tuple #[.int .i64 x37, .int .i64 x38]), .pure (.int .i64 x37), .pure (.int .i64 x38), .pure (.int .i64 x12), .pure (.bool (x12 != (0 : Int))), .pure (.bool (x12 != (0 : Int))), .pure (.int .i64 x19), .pure (.bool (x19 != (0 : Int))), .pure (.bool (x19 != (0 : Int))), .pure (.bool (x19 != (0 : Int))), .pure (.int .i64 x26), .pure (.bool (x26 != (0 : Int))), .pure (.bool (x26 != (0 : Int))), .pure (.bool (x26 != (0 : Int))), .pure (.int .i64 x32), .pure (.bool (x32 != (0 : Int))), .pure (.bool (x32 != (0 : Int))), .pure (.bool (x32 != (0 : Int))), .pure (.int .i64 x38), .pure (.bool (x38 != (0 : Int))), .pure (.bool (x38 != (0 : Int))), .pure (.bool (x38 != (0 : Int))), .pure (.agg #[.int .i64 x24, .int .i64 x25]), .pure (.int .i64 x31), .pure (.int .i64 x37), .pure (.agg #[.int .i64 x31, .int .i64 x37]), .pure (.bool !(x24 == x31 && (x25 == x37 && true))), .pure (.bool !(x24 == x31 && (x25 == x37 && true))), .pure (.bool !(x24 == x31 && (x25 == x37 && true))), .ptr 8 0, .pure (.int .i64 x10), .ptr 11 0, .pure (.int .i64 x17), .pure (.bool (decide (x10 > x17))), .pure (.bool (decide (x10 > x17))), .pure (.bool (decide (x10 > x17))), .ptr 8 1, .pure (.int .i64 x11), .ptr 11 1, .pure (.int .i64 x18), .pure (.bool (decide (x11 > x18))), .pure (.bool (decide (x11 > x18))), .pure (.bool (decide (x11 > x18))), .ptr 8 0, .pure (.int .i64 x10), .pure (.int .i64 x31), .pure (.bool (decide (x10 < x31))), .pure (.bool (decide (x10 < x31))), .pure (.bool (decide (x10 < x31))), .ptr 8 1, .pure (.int .i64 x11), .pure (.int .i64 x37), .pure (.bool (decide (x11 < x37))), .pure (.bool (decide (x11 < x37))), .pure (.tuple #[]), .pure (.tuple #[]), .pure (.tuple #[]), .pure (.tuple #[]), .pure (.tuple #[]), .pure (.tuple #[]), .pure (.tuple #[]), .pure (.tuple #[]), .pure (.tuple #[]), .pure (.tuple #[]), .pure (.tuple #[]), .pure (.tuple #[]), .pure (.tuple #[]), .pure (.tuple #[]), .pure (.tuple #[]), .pure (.tuple #[]), .pure (.tuple #[]), .pure (.tuple #[]), .pure (.tuple #[]), .pure (.tuple #[]), .pure (.tuple #[]), .pure (.tuple #[]), .pure (.tuple #[]), .pure (.tuple #[]), .pure (.tuple #[]), .pure (.tuple #[]), .pure (.tuple #[]), .pure (.tuple #[]), .pure (.tuple #[]), .pure (.tuple #[]), .pure (.tuple #[]), .pure (.tuple #[]), .pure (.tuple #[]), .pure (.tuple #[]), .pure (.tuple #[]), .pure (.tuple #[]), .pure (.tuple #[]), .pure (.tuple #[]), .pure (.tuple #[]), .pure (.tuple #[]), .pure (.tuple #[]), .pure (.tuple #[]), .pure (.tuple #[]), .pure (.tuple #[]), .pure (.tuple #[]), .pure (.tuple #[]), .pure (.tuple #[]), .pure (.tuple #[]), .pure (.tuple #[]), .pure (.tuple #[]), .pure (.tuple #[]), .pure (.tuple #[]), .pure (.tuple #[]), .pure (.tuple #[]), .pure (.tuple #[]), .pure (.tuple #[]), .pure (.tuple #[]), .pure (.tuple #[]), .pure (.tuple #[]), .pure (.tuple #[]), .pure (.tuple #[]), .pure (.tuple #[]), .pure (.tuple #[]), .pure (.tuple #[]), .pure (.tuple #[]), .pure (.tuple #[]), .pure (.tuple #[]), .pure (.tuple #[]), .pure (.tuple #[]), .pure (.tuple #[]), .pure (.tuple #[]), .pure (.tuple #[]), .pure (.tuple #[]), .pure (.tuple #[]), .pure (.tuple #[]), .pure (.tuple #[])], [(18, { cells := [], opn := none, kind := .deep x35 x36 }), (17, { cells := [], opn := none, kind := .deep x33 x34 }), (16, { cells := [], opn := none, kind := .deep x29 x30 }), (15, { cells := [], opn := none, kind := .deep x27 x28 }), (14, { cells := [.pure (.int .i64 x24), .pure (.int .i64 x25)], opn := none, kind := .cells }), (13, { cells := [], opn := none, kind := .deep x22 x23 }), (12, { cells := [], opn := none, kind := .deep x20 x21 }), (11, { cells := [.pure (.int .i64 x17), .pure (.int .i64 x18)], opn := none, kind := .cells }), (10, { cells := [], opn := none, kind := .deep x15 x16 }), (9, { cells := [], opn := none, kind := .deep x13 x14 }), (8, { cells := [.pure (.int .i64 x10), .pure (.int .i64 x11)], opn := none, kind := .cells }), (7, { cells := [], opn := none, kind := .deep x8 x9 }), (6, { cells := [], opn := none, kind := .deep x6 x7 }), (5, { cells := [.dsl 2, .dsl 3], opn := none, kind := .cells }), (4, { cells := [.dsl 0, .dsl 1], opn := none, kind := .cells }), (3, { cells := [], opn := none, kind := .deep kd cd }), (2, { cells := [], opn := none, kind := .deep kc cc }), (1, { cells := [], opn := none, kind := .deep kb cb }), (0, { cells := [], opn := none, kind := .deep ka ca })])
def law7_L13_A : LoopAt := ⟨7, loopAt Try.prog 7 0, 19, 62, 19, noFrame⟩
theorem law7_L13_ok : (law7_L13_A).OK := ⟨by show 19 ≤ 62; decide, by show 19 ≤ 19; decide, by kernel_rfl, rfl⟩
def law7_L13_gs (ka : Nat) (ca : List D) (kb : Nat) (cb : List D) (kc : Nat) (cc : List D) (kd : Nat) (cd : List D) (tol : Int) (x0 : Bool) (x1 : Bool) (x2 : Bool) (x3 : Int) (x4 : Int) (x5 : Bool) (x6 : Nat) (x7 : List D) (x8 : Nat) (x9 : List D) (x10 : Int) (x11 : Int) (x12 : Int) (x13 : Nat) (x14 : List D) (x15 : Nat) (x16 : List D) (x17 : Int) (x18 : Int) (x19 : Int) (x20 : Nat) (x21 : List D) (x22 : Nat) (x23 : List D) (x24 : Int) (x25 : Int) (x26 : Int) (x27 : Nat) (x28 : List D) (x29 : Nat) (x30 : List D) (x31 : Int) (x32 : Int) (x33 : Nat) (x34 : List D) (x35 : Nat) (x36 : List D) (x37 : Int) (x38 : Int) : Go.Ev.Rd → Option GS
  | .next 0 ds => ghost [.val 17] (6 :: (List.range' 140 41)) (law7_L13_E ka ca kb cb kc cc kd cd tol x0 x1 x2 x3 x4 x5 x6 x7 x8 x9 x10 x11 x12 x13 x14 x15 x16 x17 x18 x19 x20 x21 x22 x23 x24 x25 x26 x27 x28 x29 x30 x31 x32 x33 x34 x35 x36 x37 x38).1 (law7_L13_E ka ca kb cb kc cc kd cd tol x0 x1 x2 x3 x4 x5 x6 x7 x8 x9 x10 x11 x12 x13 x14 x15 x16 x17 x18 x19 x20 x21 x22 x23 x24 x25 x26 x27 x28 x29 x30 x31 x32 x33 x34 x35 x36 x37 x38).2 19 ds
  | .out 0 ds => ghost law7_x13_0.live law7_x13_0.junk (law7_L13_E ka ca kb cb kc cc kd cd tol x0 x1 x2 x3 x4 x5 x6 x7 x8 x9 x10 x11 x12 x13 x14 x15 x16 x17 x18 x19 x20 x21 x22 x23 x24 x25 x26 x27 x28 x29 x30 x31 x32 x33 x34 x35 x36 x37 x38).1 (law7_L13_E ka ca kb cb kc cc kd cd tol x0 x1 x2 x3 x4 x5 x6 x7 x8 x9 x10 x11 x12 x13 x14 x15 x16 x17 x18 x19 x20 x21 x22 x23 x24 x25 x26 x27 x28 x29 x30 x31 x32 x33 x34 x35 x36 x37 x38).2 19 ds
  | .out 1 ds => ghost law7_x13_1.live law7_x13_1.junk (law7_L13_E ka ca kb cb kc cc kd cd tol x0 x1 x2 x3 x4 x5 x6 x7 x8 x9 x10 x11 x12 x13 x14 x15 x16 x17 x18 x19 x20 x21 x22 x23 x24 x25 x26 x27 x28 x29 x30 x31 x32 x33 x34 x35 x36 x37 x38).1 (law7_L13_E ka ca kb cb kc cc kd cd tol x0 x1 x2 x3 x4 x5 x6 x7 x8 x9 x10 x11 x12 x13 x14 x15 x16 x17 x18 x19 x20 x21 x22 x23 x24 x25 x26 x27 x28 x29 x30 x31 x32 x33 x34 x35 x36 x37 x38).2 19 ds
  | _ => none
def law7_L13_ex : Nat → Option Nat
  | 0 => law7_x13_0.ex
  | 1 => law7_x13_1.ex
  | _ => none
def law7_L13_ax : Go.Ev.Rd → AX
  | .next _ _ => .normal
  | .out j _ => axOf (law7_L13_ex j)
def law7_L13_S0 (ka : Nat) (ca : List D) (kb : Nat) (cb : List D) (kc : Nat) (cc : List D) (kd : Nat) (cd : List D) (tol : Int) (x0 : Bool) (x1 : Bool) (x2 : Bool) (x3 : Int) (x4 : Int) (x5 : Bool) (x6 : Nat) (x7 : List D) (x8 : Nat) (x9 : List D) (x10 : Int) (x11 : Int) (x12 : Int) (x13 : Nat) (x14 : List D) (x15 : Nat) (x16 : List D) (x17 : Int) (x18 : Int) (x19 : Int) (x20 : Nat) (x21 : List D) (x22 : Nat) (x23 : List D) (x24 : Int) (x25 : Int) (x26 : Int) (x27 : Nat) (x28 : List D) (x29 : Nat) (x30 : List D) (x31 : Int) (x32 : Int) (x33 : Nat) (x34 : List D) (x35 : Nat) (x36 : List D) (x37 : Int) (x38 : Int) (ds : List D) : Option Go.Ev.Rd := pullD (α := Int) (some (.tup ds)) (fun d => ((D.vi (D.at d 0)))) (fun s17 => .tup [iD s17]) fun s17 => ((if s17 < (ka : Int) then guardP ((0 : Int) ≤ s17 ∧ s17.toNat < ka) (pullD (α := Int) (readD ca (s17.toNat * 1) 1 false) (fun d => ((D.vi d))) (fun v0 => iD v0) fun v0 => (guardP ((0 : Int) ≤ s17 ∧ s17.toNat < kc) (pullD (α := Int) (readD cc (s17.toNat * 1) 1 false) (fun d => ((D.vi d))) (fun v1 => iD v1) fun v1 => (pullD (α := Bool) (m_25 [iD (IntKind.i64.wrap (v0 - v1)), iD (IntKind.i64.wrap ((0 : Int) - tol)), iD tol]) (fun d => ((D.vb d))) (fun r2 => .one (.bool r2)) fun r2 => ((if r2 = false then some (.out 1 [.one (.bool true)]) else guardP ((0 : Int) ≤ s17 ∧ s17.toNat < kb) (pullD (α := Int) (readD cb (s17.toNat * 1) 1 false) (fun d => ((D.vi d))) (fun v3 => iD v3) fun v3 => (guardP ((0 : Int) ≤ s17 ∧ s17.toNat < kd) (pullD (α := Int) (readD cd (s17.toNat * 1) 1 false) (fun d => ((D.vi d))) (fun v4 => iD v4) fun v4 => (pullD (α := Bool) (m_25 [iD (IntKind.i64.wrap (v3 - v4)), iD (IntKind.i64.wrap ((0 : Int) - tol)), iD tol]) (fun d => ((D.vb d))) (fun r5 => .one (.bool r5)) fun r5 => ((if r5 = false then some (.out 1 [.one (.bool true)]) else some (.next 0 [iD (IntKind.i64.wrap (s17 + (1 : Int)))]))))))))))))) else some (.out 0 [])))
def law7_L13_S (ka : Nat) (ca : List D) (kb : Nat) (cb : List D) (kc : Nat) (cc : List D) (kd : Nat) (cd : List D) (tol : Int) (x0 : Bool) (x1 : Bool) (x2 : Bool) (x3 : Int) (x4 : Int) (x5 : Bool) (x6 : Nat) (x7 : List D) (x8 : Nat) (x9 : List D) (x10 : Int) (x11 : Int) (x12 : Int) (x13 : Nat) (x14 : List D) (x15 : Nat) (x16 : List D) (x17 : Int) (x18 : Int) (x19 : Int) (x20 : Nat) (x21 : List D) (x22 : Nat) (x23 : List D) (x24 : Int) (x25 : Int) (x26 : Int) (x27 : Nat) (x28 : List D) (x29 : Nat) (x30 : List D) (x31 : Int) (x32 : Int) (x33 : Nat) (x34 : List D) (x35 : Nat) (x36 : List D) (x37 : Int) (x38 : Int) : Go.Ev.Rd → Option Go.Ev.Rd
  | .next 0 ds => law7_L13_S0 ka ca kb cb kc cc kd cd tol x0 x1 x2 x3 x4 x5 x6 x7 x8 x9 x10 x11 x12 x13 x14 x15 x16 x17 x18 x19 x20 x21 x22 x23 x24 x25 x26 x27 x28 x29 x30 x31 x32 x33 x34 x35 x36 x37 x38 ds
  | _ => none
theorem law7_L13_S_ok (ka : Nat) (ca : List D) (kb : Nat) (cb : List D) (kc : Nat) (cc : List D) (kd : Nat) (cd : List D) (tol : Int) (x0 : Bool) (x1 : Bool) (x2 : Bool) (x3 : Int) (x4 : Int) (x5 : Bool) (x6 : Nat) (x7 : List D) (x8 : Nat) (x9 : List D) (x10 : Int) (x11 : Int) (x12 : Int) (x13 : Nat) (x14 : List D) (x15 : Nat) (x16 : List D) (x17 : Int) (x18 : Int) (x19 : Int) (x20 : Nat) (x21 : List D) (x22 : Nat) (x23 : List D) (x24 : Int) (x25 : Int) (x26 : Int) (x27 : Nat) (x28 : List D) (x29 : Nat) (x30 : List D) (x31 : Int) (x32 : Int) (x33 : Nat) (x34 : List D) (x35 : Nat) (x36 : List D) (x37 : Int) (x38 : Int) : ∀ s_ t_, law7_L13_S ka ca kb cb kc cc kd cd tol x0 x1 x2 x3 x4 x5 x6 x7 x8 x9 x10 x11 x12 x13 x14 x15 x16 x17 x18 x19 x20 x21 x22 x23 x24 x25 x26 x27 x28 x29 x30 x31 x32 x33 x34 x35 x36 x37 x38 s_ = some t_ → Step (ctx [7] law7_sp) Tabs law7_L13_A (stateOf (law7_L13_gs ka ca kb cb kc cc kd cd tol x0 x1 x2 x3 x4 x5 x6 x7 x8 x9 x10 x11 x12 x13 x14 x15 x16 x17 x18 x19 x20 x21 x22 x23 x24 x25 x26 x27 x28 x29 x30 x31 x32 x33 x34 x35 x36 x37 x38 s_)) (stateOf (law7_L13_gs ka ca kb cb kc cc kd cd tol x0 x1 x2 x3 x4 x5 x6 x7 x8 x9 x10 x11 x12 x13 x14 x15 x16 x17 x18 x19 x20 x21 x22 x23 x24 x25 x26 x27 x28 x29 x30 x31 x32 x33 x34 x35 x36 x37 x38 t_)) (law7_L13_ax t_) ∧ EndOK law7_L13_A.nx law7_L13_A.low (law7_L13_gs ka ca kb cb kc cc kd cd tol x0 x1 x2 x3 x4 x5 x6 x7 x8 x9 x10 x11 x12 x13 x14 x15 x16 x17 x18 x19 x20 x21 x22 x23 x24 x25 x26 x27 x28 x29 x30 x31 x32 x33 x34 x35 x36 x37 x38) t_
  | .next 0 ds, t_, h => by
    have h_ : law7_L13_S0 ka ca kb cb kc cc kd cd tol x0 x1 x2 x3 x4 x5 x6 x7 x8 x9 x10 x11 x12 x13 x14 x15 x16 x17 x18 x19 x20 x21 x22 x23 x24 x25 x26 x27 x28 x29 x30 x31 x32 x33 x34 x35 x36 x37 x38 ds = some t_ := h
    clear h
    unfold law7_L13_S0 at h_
    obtain ⟨s17, e0, h0⟩ := pullD_elim h_
    clear h_
    obtain rfl := tup_inj e0
    by_cases b1_ : s17 < (ka : Int)
    · have h2_ := (if_pos b1_).symm.trans h0
      obtain ⟨f3_, h4_⟩ := guardP_elim h2_
      obtain ⟨v0, f5_, h6_⟩ := pullD_elim h4_
      replace f5_ := readD_elim f5_
      obtain ⟨f7_, h8_⟩ := guardP_elim h6_
      obtain ⟨v1, f9_, h10_⟩ := pullD_elim h8_
      replace f9_ := readD_elim f9_
      obtain ⟨r2, f11_, h12_⟩ := pullD_elim h10_
      replace f11_ := m_25_ok f11_
      by_cases b13_ : r2 = false
      · have h14_ := (if_pos b13_).symm.trans h12_
        obtain rfl := Option.some.inj h14_
        exact ⟨step_pc 3000 (bT 19 []) [iD v0, iD v1, .one (.bool r2)] [c_d b1_, c_f f3_, c_f f5_, c_f f7_, c_f f9_, c_no b13_, c_no b13_, c_no b13_, c_no b13_, c_no b13_, c_no b13_, c_no b13_, c_no b13_, c_no b13_, c_no b13_, c_no b13_, c_no b13_, c_no b13_, c_no b13_, c_no b13_, c_no b13_, c_no b13_, c_T] [k_c f11_] _ rfl (by kernel_rfl) (by kernel_rfl) (by kernel_rfl) (by kernel_rfl) (by kernel_rfl) (by kernel_rfl), by kernel_rfl, by kernel_rfl⟩
      have h14_ := (if_neg b13_).symm.trans h12_
      have b15_ : r2 = true := by first | exact b13_ | simpa using b13_
      obtain ⟨f16_, h17_⟩ := guardP_elim h14_
      obtain ⟨v3, f18_, h19_⟩ := pullD_elim h17_
      replace f18_ := readD_elim f18_
      obtain ⟨f20_, h21_⟩ := guardP_elim h19_
      obtain ⟨v4, f22_, h23_⟩ := pullD_elim h21_
      replace f22_ := readD_elim f22_
      obtain ⟨r5, f24_, h25_⟩ := pullD_elim h23_
      replace f24_ := m_25_ok f24_
      by_cases b26_ : r5 = false
      · have h27_ := (if_pos b26_).symm.trans h25_
        obtain rfl := Option.some.inj h27_
        exact ⟨step_pc 3000 (bT 1 (bF 17 (bT 1 []))) [iD v0, iD v1, .one (.bool r2), iD v3, iD v4, .one (.bool r5)] [c_d b1_, c_f f3_, c_f f5_, c_f f7_, c_f f9_, c_nn b15_, c_nn b15_, c_nn b15_, c_nn b15_, c_f f16_, c_nn b15_, c_f f18_, c_nn b15_, c_nn b15_, c_nn b15_, c_nn b15_, c_f f20_, c_nn b15_, c_f f22_, c_nn b15_, c_nn b15_, c_nn b15_, c_nn b15_, c_nn b15_, c_nn b15_, c_nn b15_, c_no b26_] [k_c f11_, k_c f24_] _ rfl (by kernel_rfl) (by kernel_rfl) (by kernel_rfl) (by kernel_rfl) (by kernel_rfl) (by kernel_rfl), by kernel_rfl, by kernel_rfl⟩
      have h27_ := (if_neg b26_).symm.trans h25_
      have b28_ : r5 = true := by first | exact b26_ | simpa using b26_
      obtain rfl := Option.some.inj h27_
      exact ⟨step_pc 3000 (bT 1 (bF 18 [])) [iD v0, iD v1, .one (.bool r2), iD v3, iD v4, .one (.bool r5)] [c_d b1_, c_f f3_, c_f f5_, c_f f7_, c_f f9_, c_nn b15_, c_nn b15_, c_nn b15_, c_nn b15_, c_f f16_, c_nn b15_, c_f f18_, c_nn b15_, c_nn b15_, c_nn b15_, c_nn b15_, c_f f20_, c_nn b15_, c_f f22_, c_nn b15_, c_nn b15_, c_nn b15_, c_nn b15_, c_nn b15_, c_nn b15_, c_nn b15_, c_nn b28_] [k_c f11_, k_c f24_] _ rfl (by kernel_rfl) (by kernel_rfl) (by kernel_rfl) (by kernel_rfl) (by kernel_rfl) (by kernel_rfl), trivial⟩
    have h2_ := (if_neg b1_).symm.trans h0
    obtain rfl := Option.some.inj h2_
    exact ⟨step_pc 3000 (bF 1 []) [] [c_n b1_] [] _ rfl (by kernel_rfl) (by kernel_rfl) (by kernel_rfl) (by kernel_rfl) (by kernel_rfl) (by kernel_rfl), by kernel_rfl, by kernel_rfl⟩
  | .next (_ + 1) _, _, h => by cases h
  | .out _ _, _, h => by cases h
theorem law7_L13_go (ka : Nat) (ca : List D) (kb : Nat) (cb : List D) (kc : Nat) (cc : List D) (kd : Nat) (cd : List D) (tol : Int) (x0 : Bool) (x1 : Bool) (x2 : Bool) (x3 : Int) (x4 : Int) (x5 : Bool) (x6 : Nat) (x7 : List D) (x8 : Nat) (x9 : List D) (x10 : Int) (x11 : Int) (x12 : Int) (x13 : Nat) (x14 : List D) (x15 : Nat) (x16 : List D) (x17 : Int) (x18 : Int) (x19 : Int) (x20 : Nat) (x21 : List D) (x22 : Nat) (x23 : List D) (x24 : Int) (x25 : Int) (x26 : Int) (x27 : Nat) (x28 : List D) (x29 : Nat) (x30 : List D) (x31 : Int) (x32 : Int) (x33 : Nat) (x34 : List D) (x35 : Nat) (x36 : List D) (x37 : Int) (x38 : Int) {q : Nat} {ds : List D} {j : Nat} {es : List D} (h : runR (law7_L13_S ka ca kb cb kc cc kd cd tol x0 x1 x2 x3 x4 x5 x6 x7 x8 x9 x10 x11 x12 x13 x14 x15 x16 x17 x18 x19 x20 x21 x22 x23 x24 x25 x26 x27 x28 x29 x30 x31 x32 x33 x34 x35 x36 x37 x38) (.next q ds) = some (.out j es)) : Runs (ctx [7] law7_sp) Tabs law7_L13_A (stateOf (law7_L13_gs ka ca kb cb kc cc kd cd tol x0 x1 x2 x3 x4 x5 x6 x7 x8 x9 x10 x11 x12 x13 x14 x15 x16 x17 x18 x19 x20 x21 x22 x23 x24 x25 x26 x27 x28 x29 x30 x31 x32 x33 x34 x35 x36 x37 x38 (.next q ds))) (stateOf (law7_L13_gs ka ca kb cb kc cc kd cd tol x0 x1 x2 x3 x4 x5 x6 x7 x8 x9 x10 x11 x12 x13 x14 x15 x16 x17 x18 x19 x20 x21 x22 x23 x24 x25 x26 x27 x28 x29 x30 x31 x32 x33 x34 x35 x36 x37 x38 (.out j es))) (law7_L13_ax (.out j es)) ∧ (nxtOf (law7_L13_gs ka ca kb cb kc cc kd cd tol x0 x1 x2 x3 x4 x5 x6 x7 x8 x9 x10 x11 x12 x13 x14 x15 x16 x17 x18 x19 x20 x21 x22 x23 x24 x25 x26 x27 x28 x29 x30 x31 x32 x33 x34 x35 x36 x37 x38 (.out j es)), lowGS (law7_L13_gs ka ca kb cb kc cc kd cd tol x0 x1 x2 x3 x4 x5 x6 x7 x8 x9 x10 x11 x12 x13 x14 x15 x16 x17 x18 x19 x20 x21 x22 x23 x24 x25 x26 x27 x28 x29 x30 x31 x32 x33 x34 x35 x36 x37 x38 (.out j es))) = (law7_L13_A.nx, law7_L13_A.low) :=
  runs_of' (good true _ _) law7_L13_ok (ax := law7_L13_ax) (fun _ _ => rfl) (fun _ _ => axOf_end _) (law7_L13_S_ok ka ca kb cb kc cc kd cd tol x0 x1 x2 x3 x4 x5 x6 x7 x8 x9 x10 x11 x12 x13 x14 x15 x16 x17 x18 x19 x20 x21 x22 x23 x24 x25 x26 x27 x28 x29 x30 x31 x32 x33 x34 x35 x36 x37 x38) h
theorem law7_L13_in0 (ka : Nat) (ca : List D) (kb : Nat) (cb : List D) (kc : Nat) (cc : List D) (kd : Nat) (cd : List D) (tol : Int) (x0 : Bool) (x1 : Bool) (x2 : Bool) (x3 : Int) (x4 : Int) (x5 : Bool) (x6 : Nat) (x7 : List D) (x8 : Nat) (x9 : List D) (x10 : Int) (x11 : Int) (x12 : Int) (x13 : Nat) (x14 : List D) (x15 : Nat) (x16 : List D) (x17 : Int) (x18 : Int) (x19 : Int) (x20 : Nat) (x21 : List D) (x22 : Nat) (x23 : List D) (x24 : Int) (x25 : Int) (x26 : Int) (x27 : Nat) (x28 : List D) (x29 : Nat) (x30 : List D) (x31 : Int) (x32 : Int) (x33 : Nat) (x34 : List D) (x35 : Nat) (x36 : List D) (x37 : Int) (x38 : Int) {es : List D} (h : runR (law7_L13_S ka ca kb cb kc cc kd cd tol x0 x1 x2 x3 x4 x5 x6 x7 x8 x9 x10 x11 x12 x13 x14 x15 x16 x17 x18 x19 x20 x21 x22 x23 x24 x25 x26 x27 x28 x29 x30 x31 x32 x33 x34 x35 x36 x37 x38) (.next 0 [iD ((0 : Int))]) = some (.out 0 es)) : LoopC (loopAt Try.prog 7 0) (law7_L13_E ka ca kb cb kc cc kd cd tol x0 x1 x2 x3 x4 x5 x6 x7 x8 x9 x10 x11 x12 x13 x14 x15 x16 x17 x18 x19 x20 x21 x22 x23 x24 x25 x26 x27 x28 x29 x30 x31 x32 x33 x34 x35 x36 x37 x38) 19 noFrame law7_x13_0 es :=
  have r := law7_L13_go ka ca kb cb kc cc kd cd tol x0 x1 x2 x3 x4 x5 x6 x7 x8 x9 x10 x11 x12 x13 x14 x15 x16 x17 x18 x19 x20 x21 x22 x23 x24 x25 x26 x27 x28 x29 x30 x31 x32 x33 x34 x35 x36 x37 x38 h
  loopin_as rfl (loop_in (l := law7_L13_A) (E := (law7_L13_E ka ca kb cb kc cc kd cd tol x0 x1 x2 x3 x4 x5 x6 x7 x8 x9 x10 x11 x12 x13 x14 x15 x16 x17 x18 x19 x20 x21 x22 x23 x24 x25 x26 x27 x28 x29 x30 x31 x32 x33 x34 x35 x36 x37 x38)) (S := stateOf (law7_L13_gs ka ca kb cb kc cc kd cd tol x0 x1 x2 x3 x4 x5 x6 x7 x8 x9 x10 x11 x12 x13 x14 x15 x16 x17 x18 x19 x20 x21 x22 x23 x24 x25 x26 x27 x28 x29 x30 x31 x32 x33 x34 x35 x36 x37 x38 (.next 0 [iD ((0 : Int))]))) (ns := nsOf (law7_L13_gs ka ca kb cb kc cc kd cd tol x0 x1 x2 x3 x4 x5 x6 x7 x8 x9 x10 x11 x12 x13 x14 x15 x16 x17 x18 x19 x20 x21 x22 x23 x24 x25 x26 x27 x28 x29 x30 x31 x32 x33 x34 x35 x36 x37 x38 (.next 0 [iD ((0 : Int))]))) law7_L13_ok r.1 r.2 (by kernel_rfl) (by kernel_rfl) (by kernel_rfl) (by kernel_rfl))
theorem law7_L13_in1 (ka : Nat) (ca : List D) (kb : Nat) (cb : List D) (kc : Nat) (cc : List D) (kd : Nat) (cd : List D) (tol : Int) (x0 : Bool) (x1 : Bool) (x2 : Bool) (x3 : Int) (x4 : Int) (x5 : Bool) (x6 : Nat) (x7 : List D) (x8 : Nat) (x9 : List D) (x10 : Int) (x11 : Int) (x12 : Int) (x13 : Nat) (x14 : List D) (x15 : Nat) (x16 : List D) (x17 : Int) (x18 : Int) (x19 : Int) (x20 : Nat) (x21 : List D) (x22 : Nat) (x23 : List D) (x24 : Int) (x25 : Int) (x26 : Int) (x27 : Nat) (x28 : List D) (x29 : Nat) (x30 : List D) (x31 : Int) (x32 : Int) (x33 : Nat) (x34 : List D) (x35 : Nat) (x36 : List D) (x37 : Int) (x38 : Int) {es : List D} (h : runR (law7_L13_S ka ca kb cb kc cc kd cd tol x0 x1 x2 x3 x4 x5 x6 x7 x8 x9 x10 x11 x12 x13 x14 x15 x16 x17 x18 x19 x20 x21 x22 x23 x24 x25 x26 x27 x28 x29 x30 x31 x32 x33 x34 x35 x36 x37 x38) (.next 0 [iD ((0 : Int))]) = some (.out 1 es)) : LoopC (loopAt Try.prog 7 0) (law7_L13_E ka ca kb cb kc cc kd cd tol x0 x1 x2 x3 x4 x5 x6 x7 x8 x9 x10 x11 x12 x13 x14 x15 x16 x17 x18 x19 x20 x21 x22 x23 x24 x25 x26 x27 x28 x29 x30 x31 x32 x33 x34 x35 x36 x37 x38) 19 noFrame law7_x13_1 es :=
  have r := law7_L13_go ka ca kb cb kc cc kd cd tol x0 x1 x2 x3 x4 x5 x6 x7 x8 x9 x10 x11 x12 x13 x14 x15 x16 x17 x18 x19 x20 x21 x22 x23 x24 x25 x26 x27 x28 x29 x30 x31 x32 x33 x34 x35 x36 x37 x38 h
  loopin_as rfl (loop_in (l := law7_L13_A) (E := (law7_L13_E ka ca kb cb kc cc kd cd tol x0 x1 x2 x3 x4 x5 x6 x7 x8 x9 x10 x11 x12 x13 x14 x15 x16 x17 x18 x19 x20 x21 x22 x23 x24 x25 x26 x27 x28 x29 x30 x31 x32 x33 x34 x35 x36 x37 x38)) (S := stateOf (law7_L13_gs ka ca kb cb kc cc kd cd tol x0 x1 x2 x3 x4 x5 x6 x7 x8 x9 x10 x11 x12 x13 x14 x15 x16 x17 x18 x19 x20 x21 x22 x23 x24 x25 x26 x27 x28 x29 x30 x31 x32 x33 x34 x35 x36 x37 x38 (.next 0 [iD ((0 : Int))]))) (ns := nsOf (law7_L13_gs ka ca kb cb kc cc kd cd tol x0 x1 x2 x3 x4 x5 x6 x7 x8 x9 x10 x11 x12 x13 x14 x15 x16 x17 x18 x19 x20 x21 x22 x23 x24 x25 x26 x27 x28 x29 x30 x31 x32 x33 x34 x35 x36 x37 x38 (.next 0 [iD ((0 : Int))]))) law7_L13_ok r.1 r.2 (by kernel_rfl) (by kernel_rfl) (by kernel_rfl) (by kernel_rfl))
def law7_M (ka : Nat) (ca : List D) (kb : Nat) (cb : List D) (kc : Nat) (cc : List D) (kd : Nat) (cd : List D) (tol : Int) : Option D := pullD (α := Bool) (m_8 []) (fun d => ((D.vb d))) (fun r0 => .one (.bool r0)) fun r0 => ((if r0 = false then some (.one (.bool false)) else pullD (α := Bool) (m_9 [.agg [.list ka ca, .list kb cb]]) (fun d => ((D.vb d))) (fun r1 => .one (.bool r1)) fun r1 => ((if r1 = false then some (.one (.bool true)) else pullD (α := Bool) (m_9 [.agg [.list kc cc, .list kd cd]]) (fun d => ((D.vb d))) (fun r2 => .one (.bool r2)) fun r2 => ((if r2 = false then some (.one (.bool true)) else pullD (α := Int) (m_16 [.agg [.list ka ca, .list kb cb]]) (fun d => ((D.vi d))) (fun r3 => iD r3) fun r3 => ((if r3 ≠ (0 : Int) then some (.one (.bool true)) else pullD (α := Int) (m_16 [.agg [.list kc cc, .list kd cd]]) (fun d => ((D.vi d))) (fun r4 => iD r4) fun r4 => ((if r4 ≠ (0 : Int) then some (.one (.bool true)) else pullD (α := Bool) (m_25 [iD tol, iD (0 : Int), iD (19 : Int)]) (fun d => ((D.vb d))) (fun r5 => .one (.bool r5)) fun r5 => ((if r5 = false then some (.one (.bool true)) else (if (kc : Int) ≠ (ka : Int) then some (.one (.bool true)) else pullD (α := Nat × (List D) × Nat × (List D)) (m_11 [.agg [.list ka ca, .list kb cb]]) (fun d => ((D.ln (D.at d 0)), (D.lc (D.at d 0)), (D.ln (D.at d 1)), (D.lc (D.at d 1)))) (fun (k6, c7, k8, c9) => .agg [.list k6 c7, .list k8 c9]) fun (k6, c7, k8, c9) => (pullD (α := Int × Int × Int) (m_29 [.agg [.list k6 c7, .list k8 c9], iD tol]) (fun d => ((D.vi (D.at (D.at d 0) 0)), (D.vi (D.at (D.at d 0) 1)), (D.vi (D.at d 1)))) (fun (r10, r11, r12) => .tup [.agg [iD r10, iD r11], iD r12]) fun (r10, r11, r12) => (pullD (α := Nat × (List D) × Nat × (List D)) (m_11 [.agg [.list ka ca, .list kb cb]]) (fun d => ((D.ln (D.at d 0)), (D.lc (D.at d 0)), (D.ln (D.at d 1)), (D.lc (D.at d 1)))) (fun (k13, c14, k15, c16) => .agg [.list k13 c14, .list k15 c16]) fun (k13, c14, k15, c16) => (pullD (α := Int × Int × Int) (m_29 [.agg [.list k13 c14, .list k15 c16], iD (IntKind.i64.wrap (tol + (1 : Int)))]) (fun d => ((D.vi (D.at (D.at d 0) 0)), (D.vi (D.at (D.at d 0) 1)), (D.vi (D.at d 1)))) (fun (r17, r18, r19) => .tup [.agg [iD r17, iD r18], iD r19]) fun (r17, r18, r19) => (pullD (α := Nat × (List D) × Nat × (List D)) (m_11 [.agg [.list ka ca, .list kb cb]]) (fun d => ((D.ln (D.at d 0)), (D.lc (D.at d 0)), (D.ln (D.at d 1)), (D.lc (D.at d 1)))) (fun (k20, c21, k22, c23) => .agg [.list k20 c21, .list k22 c23]) fun (k20, c21, k22, c23) => (pullD (α := Int × Int × Int) (m_29 [.agg [.list k20 c21, .list k22 c23], iD (0 : Int)]) (fun d => ((D.vi (D.at (D.at d 0) 0)), (D.vi (D.at (D.at d 0) 1)), (D.vi (D.at d 1)))) (fun (r24, r25, r26) => .tup [.agg [iD r24, iD r25], iD r26]) fun (r24, r25, r26) => (pullD (α := Nat × (List D) × Nat × (List D)) (m_11 [.agg [.list ka ca, .list kb cb]]) (fun d => ((D.ln (D.at d 0)), (D.lc (D.at d 0)), (D.ln (D.at d 1)), (D.lc (D.at d 1)))) (fun (k27, c28, k29, c30) => .agg [.list k27 c28, .list k29 c30]) fun (k27, c28, k29, c30) => (pullD (α := Int × Int) (m_15 [.agg [.list k27 c28, .list k29 c30], iD (0 : Int)]) (fun d => ((D.vi (D.at d 0)), (D.vi (D.at d 1)))) (fun (r31, r32) => .tup [iD r31, iD r32]) fun (r31, r32) => (pullD (α := Nat × (List D) × Nat × (List D)) (m_11 [.agg [.list ka ca, .list kb cb]]) (fun d => ((D.ln (D.at d 0)), (D.lc (D.at d 0)), (D.ln (D.at d 1)), (D.lc (D.at d 1)))) (fun (k33, c34, k35, c36) => .agg [.list k33 c34, .list k35 c36]) fun (k33, c34, k35, c36) => (pullD (α := Int × Int) (m_15 [.agg [.list k33 c34, .list k35 c36], iD (1 : Int)]) (fun d => ((D.vi (D.at d 0)), (D.vi (D.at d 1)))) (fun (r37, r38) => .tup [iD r37, iD r38]) fun (r37, r38) => ((if r12 ≠ (0 : Int) then some (.one (.bool false)) else (if r19 ≠ (0 : Int) then some (.one (.bool false)) else (if r26 ≠ (0 : Int) then some (.one (.bool false)) else (if r32 ≠ (0 : Int) then some (.one (.bool false)) else (if r38 ≠ (0 : Int) then some (.one (.bool false)) else (if (!(r24 == r31 && (r25 == r37 && true))) = true then some (.one (.bool false)) else (if r10 > r17 then some (.one (.bool false)) else (if r11 > r18 then some (.one (.bool false)) else (if r10 < r31 then some (.one (.bool false)) else (if r11 < r37 then some (.one (.bool false)) else bindL (runR (law7_L13_S ka ca kb cb kc cc kd cd tol r0 r1 r2 r3 r4 r5 k6 c7 k8 c9 r10 r11 r12 k13 c14 k15 c16 r17 r18 r19 k20 c21 k22 c23 r24 r25 r26 k27 c28 k29 c30 r31 r32 k33 c34 k35 c36 r37 r38) (.next 0 [iD ((0 : Int))])) fun j ds => (if j = 0 then pullD (some (.tup ds)) (fun _ => ()) (fun _ => .tup []) fun _ => (pullD (α := Nat × (List D) × Nat × (List D)) (m_11 [.agg [.list kc cc, .list kd cd]]) (fun d => ((D.ln (D.at d 0)), (D.lc (D.at d 0)), (D.ln (D.at d 1)), (D.lc (D.at d 1)))) (fun (k39, c40, k41, c42) => .agg [.list k39 c40, .list k41 c42]) fun (k39, c40, k41, c42) => (pullD (α := Nat × (List D) × Nat × (List D) × Int) (m_13 [.agg [.list k39 c40, .list k41 c42]]) (fun d => ((D.ln (D.at (D.at d 0) 0)), (D.lc (D.at (D.at d 0) 0)), (D.ln (D.at (D.at d 0) 1)), (D.lc (D.at (D.at d 0) 1)), (D.vi (D.at d 1)))) (fun (k43, c44, k45, c46, r47) => .tup [.agg [.list k43 c44, .list k45 c46], iD r47]) fun (k43, c44, k45, c46, r47) => ((if r47 ≠ (0 : Int) then some (.one (.bool false)) else bindL (runR (law7_L24_S ka ca kb cb kc cc kd cd tol r0 r1 r2 r3 r4 r5 k6 c7 k8 c9 r10 r11 r12 k13 c14 k15 c16 r17 r18 r19 k20 c21 k22 c23 r24 r25 r26 k27 c28 k29 c30 r31 r32 k33 c34 k35 c36 r37 r38 k39 c40 k41 c42 k43 c44 k45 c46 r47) (.next 0 [iD ((0 : Int))])) fun j ds => (if j = 0 then pullD (some (.tup ds)) (fun _ => ()) (fun _ => .tup []) fun _ => (bindL (runR (law7_L24_2_S ka ca kb cb kc cc kd cd tol r0 r1 r2 r3 r4 r5 k6 c7 k8 c9 r10 r11 r12 k13 c14 k15 c16 r17 r18 r19 k20 c21 k22 c23 r24 r25 r26 k27 c28 k29 c30 r31 r32 k33 c34 k35 c36 r37 r38 k39 c40 k41 c42 k43 c44 k45 c46 r47) (.next 0 [iD ((0 : Int))])) fun j ds => (if j = 0 then pullD (some (.tup ds)) (fun _ => ()) (fun _ => .tup []) fun _ => (some (.one (.bool true))) else if j = 1 then pullD (α := Bool) (some (.tup ds)) (fun d => ((D.vb (D.at d 0)))) (fun l48 => .tup [.one (.bool l48)]) fun l48 => (some (.one (.bool l48))) else none)) else if j = 1 then pullD (α := Bool) (some (.tup ds)) (fun d => ((D.vb (D.at d 0)))) (fun l49 => .tup [.one (.bool l49)]) fun l49 => (some (.one (.bool l49))) else none))))) else if j = 1 then pullD (α := Bool) (some (.tup ds)) (fun d => ((D.vb (D.at d 0)))) (fun l50 => .tup [.one (.bool l50)]) fun l50 => (some (.one (.bool l50))) else none))))))))))))))))))))))))))))))))))
theorem law7_M_ok (ka : Nat) (ca : List D) (kb : Nat) (cb : List D) (kc : Nat) (cc : List D) (kd : Nat) (cd : List D) (tol : Int) {r : D} (h : law7_M ka ca kb cb kc cc kd cd tol = some r) : Con 7 [.agg [.list ka ca, .list kb cb], .agg [.list kc cc, .list kd cd], iD tol] r := by
  unfold law7_M at h
  obtain ⟨r0, f1_, h2_⟩ := pullD_elim h
  replace f1_ := m_8_ok f1_
  by_cases b3_ : r0 = false
  · have h4_ := (if_pos b3_).symm.trans h2_
    obtain rfl := Option.some.inj h4_
    exact con_pc (op := true) (I := [7]) (sp := law7_sp) 3000 (bT 1 []) [.one (.bool r0)] [c_no b3_] [k_c f1_] (by kernel_rfl)
  have h4_ := (if_neg b3_).symm.trans h2_
  have b5_ : r0 = true := by first | exact b3_ | simpa using b3_
  obtain ⟨r1, f6_, h7_⟩ := pullD_elim h4_
  replace f6_ := m_9_ok f6_
  by_cases b8_ : r1 = false
  · have h9_ := (if_pos b8_).symm.trans h7_
    obtain rfl := Option.some.inj h9_
    exact con_pc (op := true) (I := [7]) (sp := law7_sp) 3000 (bF 1 (bT 25 [])) [.one (.bool r0), .one (.bool r1)] [c_nn b5_, c_no b8_, c_no b8_, c_no b8_, c_no b8_, c_T, c_T, c_T, c_T, c_T, c_T, c_T, c_T, c_T, c_T, c_T, c_T, c_T, c_T, c_T, c_T, c_T, c_T, c_T, c_T, c_T] [k_c f1_, k_c f6_] (by kernel_rfl)
  have h9_ := (if_neg b8_).symm.trans h7_
  have b10_ : r1 = true := by first | exact b8_ | simpa using b8_
  obtain ⟨r2, f11_, h12_⟩ := pullD_elim h9_
  replace f11_ := m_9_ok f11_
  by_cases b13_ : r2 = false
  · have h14_ := (if_pos b13_).symm.trans h12_
    obtain rfl := Option.some.inj h14_
    exact con_pc (op := true) (I := [7]) (sp := law7_sp) 3000 (bF 5 (bT 21 [])) [.one (.bool r0), .one (.bool r1), .one (.bool r2)] [c_nn b5_, c_nn b10_, c_nn b10_, c_nn b10_, c_nn b10_, c_no b13_, c_no b13_, c_no b13_, c_no b13_, c_T, c_T, c_T, c_T, c_T, c_T, c_T, c_T, c_T, c_T, c_T, c_T, c_T, c_T, c_T, c_T, c_T] [k_c f1_, k_c f6_, k_c f11_] (by kernel_rfl)
  have h14_ := (if_neg b13_).symm.trans h12_
  have b15_ : r2 = true := by first | exact b13_ | simpa using b13_
  obtain ⟨r3, f16_, h17_⟩ := pullD_elim h14_
  replace f16_ := m_16_ok f16_
  by_cases b18_ : r3 ≠ (0 : Int)
  · have h19_ := (if_pos b18_).symm.trans h17_
    obtain rfl := Option.some.inj h19_
    exact con_pc (op := true) (I := [7]) (sp := law7_sp) 3000 (bF 9 (bT 17 [])) [.one (.bool r0), .one (.bool r1), .one (.bool r2), iD r3] [c_nn b5_, c_nn b10_, c_nn b10_, c_nn b10_, c_nn b10_, c_nn b15_, c_nn b15_, c_nn b15_, c_nn b15_, c_b b18_, c_b b18_, c_b b18_, c_b b18_, c_T, c_T, c_T, c_T, c_T, c_T, c_T, c_T, c_T, c_T, c_T, c_T, c_T] [k_c f1_, k_c f6_, k_c f11_, k_c f16_] (by kernel_rfl)
  have h19_ := (if_neg b18_).symm.trans h17_
  have b20_ : r3 = (0 : Int) := by first | exact b18_ | simpa using b18_
  obtain ⟨r4, f21_, h22_⟩ := pullD_elim h19_
  replace f21_ := m_16_ok f21_
  by_cases b23_ : r4 ≠ (0 : Int)
  · have h24_ := (if_pos b23_).symm.trans h22_
    obtain rfl := Option.some.inj h24_
    exact con_pc (op := true) (I := [7]) (sp := law7_sp) 3000 (bF 13 (bT 13 [])) [.one (.bool r0), .one (.bool r1), .one (.bool r2), iD r3, iD r4] [c_nn b5_, c_nn b10_, c_nn b10_, c_nn b10_, c_nn b10_, c_nn b15_, c_nn b15_, c_nn b15_, c_nn b15_, c_bn b20_, c_bn b20_, c_bn b20_, c_bn b20_, c_b b23_, c_b b23_, c_b b23_, c_b b23_, c_T, c_T, c_T, c_T, c_T, c_T, c_T, c_T, c_T] [k_c f1_, k_c f6_, k_c f11_, k_c f16_, k_c f21_] (by kernel_rfl)
  have h24_ := (if_neg b23_).symm.trans h22_
  have b25_ : r4 = (0 : Int) := by first | exact b23_ | simpa using b23_
  obtain ⟨r5, f26_, h27_⟩ := pullD_elim h24_
  replace f26_ := m_25_ok f26_
  by_cases b28_ : r5 = false
  · have h29_ := (if_pos b28_).symm.trans h27_
    obtain rfl := Option.some.inj h29_
    exact con_pc (op := true) (I := [7]) (sp := law7_sp) 3000 (bF 17 (bT 9 [])) [.one (.bool r0), .one (.bool r1), .one (.bool r2), iD r3, iD r4, .one (.bool r5)] [c_nn b5_, c_nn b10_, c_nn b10_, c_nn b10_, c_nn b10_, c_nn b15_, c_nn b15_, c_nn b15_, c_nn b15_, c_bn b20_, c_bn b20_, c_bn b20_, c_bn b20_, c_bn b25_, c_bn b25_, c_bn b25_, c_bn b25_, c_no b28_, c_no b28_, c_no b28_, c_no b28_, c_no b28_, c_no b28_, c_no b28_, c_no b28_, c_T] [k_c f1_, k_c f6_, k_c f11_, k_c f16_, k_c f21_, k_c f26_] (by kernel_rfl)
  have h29_ := (if_neg b28_).symm.trans h27_
  have b30_ : r5 = true := by first | exact b28_ | simpa using b28_
  by_cases b31_ : (kc : Int) ≠ (ka : Int)
  · have h32_ := (if_pos b31_).symm.trans h29_
    obtain rfl := Option.some.inj h32_
    exact con_pc (op := true) (I := [7]) (sp := law7_sp) 3000 (bF 25 (bT 1 [])) [.one (.bool r0), .one (.bool r1), .one (.bool r2), iD r3, iD r4, .one (.bool r5)] [c_nn b5_, c_nn b10_, c_nn b10_, c_nn b10_, c_nn b10_, c_nn b15_, c_nn b15_, c_nn b15_, c_nn b15_, c_bn b20_, c_bn b20_, c_bn b20_, c_bn b20_, c_bn b25_, c_bn b25_, c_bn b25_, c_bn b25_, c_nn b30_, c_nn b30_, c_nn b30_, c_nn b30_, c_nn b30_, c_nn b30_, c_nn b30_, c_nn b30_, c_b b31_] [k_c f1_, k_c f6_, k_c f11_, k_c f16_, k_c f21_, k_c f26_] (by kernel_rfl)
  have h32_ := (if_neg b31_).symm.trans h29_
  have b33_ : (kc : Int) = (ka : Int) := by first | exact b31_ | simpa using b31_
  obtain ⟨⟨k6, c7, k8, c9⟩, f34_, h35_⟩ := pullD_elim h32_
  replace f34_ := m_11_ok f34_
  obtain ⟨⟨r10, r11, r12⟩, f36_, h37_⟩ := pullD_elim h35_
  replace f36_ := m_29_ok f36_
  obtain ⟨⟨k13, c14, k15, c16⟩, f38_, h39_⟩ := pullD_elim h37_
  replace f38_ := m_11_ok f38_
  obtain ⟨⟨r17, r18, r19⟩, f40_, h41_⟩ := pullD_elim h39_
  replace f40_ := m_29_ok f40_
  obtain ⟨⟨k20, c21, k22, c23⟩, f42_, h43_⟩ := pullD_elim h41_
  replace f42_ := m_11_ok f42_
  obtain ⟨⟨r24, r25, r26⟩, f44_, h45_⟩ := pullD_elim h43_
  replace f44_ := m_29_ok f44_
  obtain ⟨⟨k27, c28, k29, c30⟩, f46_, h47_⟩ := pullD_elim h45_
  replace f46_ := m_11_ok f46_
  obtain ⟨⟨r31, r32⟩, f48_, h49_⟩ := pullD_elim h47_
  replace f48_ := m_15_ok f48_
  obtain ⟨⟨k33, c34, k35, c36⟩, f50_, h51_⟩ := pullD_elim h49_
  replace f50_ := m_11_ok f50_
  obtain ⟨⟨r37, r38⟩, f52_, h53_⟩ := pullD_elim h51_
  replace f52_ := m_15_ok f52_
  by_cases b54_ : r12 ≠ (0 : Int)
  · have h55_ := (if_pos b54_).symm.trans h53_
    obtain rfl := Option.some.inj h55_
    exact con_pc (op := true) (I := [7]) (sp := law7_sp) 3000 (bF 26 (bT 41 [])) [.one (.bool r0), .one (.bool r1), .one (.bool r2), iD r3, iD r4, .one (.bool r5), .agg [.list k6 c7, .list k8 c9], .tup [.agg [iD r10, iD r11], iD r12], .agg [.list k13 c14, .list k15 c16], .tup [.agg [iD r17, iD r18], iD r19], .agg [.list k20 c21, .list k22 c23], .tup [.agg [iD r24, iD r25], iD r26], .agg [.list k27 c28, .list k29 c30], .tup [iD r31, iD r32], .agg [.list k33 c34, .list k35 c36], .tup [iD r37, iD r38]] [c_nn b5_, c_nn b10_, c_nn b10_, c_nn b10_, c_nn b10_, c_nn b15_, c_nn b15_, c_nn b15_, c_nn b15_, c_bn b20_, c_bn b20_, c_bn b20_, c_bn b20_, c_bn b25_, c_bn b25_, c_bn b25_, c_bn b25_, c_nn b30_, c_nn b30_, c_nn b30_, c_nn b30_, c_nn b30_, c_nn b30_, c_nn b30_, c_nn b30_, c_bn b33_, c_b b54_, c_b b54_, c_b b54_, c_T, c_T, c_T, c_T, c_T, c_T, c_T, c_T, c_T, c_T, c_T, c_T, c_T, c_T, c_T, c_T, c_T, c_T, c_T, c_T, c_T, c_T, c_T, c_T, c_T, c_T, c_T, c_T, c_T, c_T, c_T, c_T, c_T, c_T, c_T, c_T, c_T, c_T] [k_c f1_, k_c f6_, k_c f11_, k_c f16_, k_c f21_, k_c f26_, k_c f34_, k_c f36_, k_c f38_, k_c f40_, k_c f42_, k_c f44_, k_c f46_, k_c f48_, k_c f50_, k_c f52_] (by kernel_rfl)
  have h55_ := (if_neg b54_).symm.trans h53_
  have b56_ : r12 = (0 : Int) := by first | exact b54_ | simpa using b54_
  by_cases b57_ : r19 ≠ (0 : Int)
  · have h58_ := (if_pos b57_).symm.trans h55_
    obtain rfl := Option.some.inj h58_
    exact con_pc (op := true) (I := [7]) (sp := law7_sp) 3000 (bF 29 (bT 38 [])) [.one (.bool r0), .one (.bool r1), .one (.bool r2), iD r3, iD r4, .one (.bool r5), .agg [.list k6 c7, .list k8 c9], .tup [.agg [iD r10, iD r11], iD r12], .agg [.list k13 c14, .list k15 c16], .tup [.agg [iD r17, iD r18], iD r19], .agg [.list k20 c21, .list k22 c23], .tup [.agg [iD r24, iD r25], iD r26], .agg [.list k27 c28, .list k29 c30], .tup [iD r31, iD r32], .agg [.list k33 c34, .list k35 c36], .tup [iD r37, iD r38]] [c_nn b5_, c_nn b10_, c_nn b10_, c_nn b10_, c_nn b10_, c_nn b15_, c_nn b15_, c_nn b15_, c_nn b15_, c_bn b20_, c_bn b20_, c_bn b20_, c_bn b20_, c_bn b25_, c_bn b25_, c_bn b25_, c_bn b25_, c_nn b30_, c_nn b30_, c_nn b30_, c_nn b30_, c_nn b30_, c_nn b30_, c_nn b30_, c_nn b30_, c_bn b33_, c_bn b56_, c_bn b56_, c_bn b56_, c_b b57_, c_b b57_, c_b b57_, c_T, c_T, c_T, c_T, c_T, c_T, c_T, c_T, c_T, c_T, c_T, c_T, c_T, c_T, c_T, c_T, c_T, c_T, c_T, c_T, c_T, c_T, c_T, c_T, c_T, c_T, c_T, c_T, c_T, c_T, c_T, c_T, c_T, c_T, c_T] [k_c f1_, k_c f6_, k_c f11_, k_c f16_, k_c f21_, k_c f26_, k_c f34_, k_c f36_, k_c f38_, k_c f40_, k_c f42_, k_c f44_, k_c f46_, k_c f48_, k_c f50_, k_c f52_] (by kernel_rfl)
  have h58_ := (if_neg b57_).symm.trans h55_
  have b59_ : r19 = (0 : Int) := by first | exact b57_ | simpa using b57_
  by_cases b60_ : r26 ≠ (0 : Int)
  · have h61_ := (if_pos b60_).symm.trans h58_
    obtain rfl := Option.some.inj h61_
    exact con_pc (op := true) (I := [7]) (sp := law7_sp) 3000 (bF 32 (bT 35 [])) [.one (.bool r0), .one (.bool r1), .one (.bool r2), iD r3, iD r4, .one (.bool r5), .agg [.list k6 c7, .list k8 c9], .tup [.agg [iD r10, iD r11], iD r12], .agg [.list k13 c14, .list k15 c16], .tup [.agg [iD r17, iD r18], iD r19], .agg [.list k20 c21, .list k22 c23], .tup [.agg [iD r24, iD r25], iD r26], .agg [.list k27 c28, .list k29 c30], .tup [iD r31, iD r32], .agg [.list k33 c34, .list k35 c36], .tup [iD r37, iD r38]] [c_nn b5_, c_nn b10_, c_nn b10_, c_nn b10_, c_nn b10_, c_nn b15_, c_nn b15_, c_nn b15_, c_nn b15_, c_bn b20_, c_bn b20_, c_bn b20_, c_bn b20_, c_bn b25_, c_bn b25_, c_bn b25_, c_bn b25_, c_nn b30_, c_nn b30_, c_nn b30_, c_nn b30_, c_nn b30_, c_nn b30_, c_nn b30_, c_nn b30_, c_bn b33_, c_bn b56_, c_bn b56_, c_bn b56_, c_bn b59_, c_bn b59_, c_bn b59_, c_b b60_, c_b b60_, c_b b60_, c_T, c_T, c_T, c_T, c_T, c_T, c_T, c_T, c_T, c_T, c_T, c_T, c_T, c_T, c_T, c_T, c_T, c_T, c_T, c_T, c_T, c_T, c_T, c_T, c_T, c_T, c_T, c_T, c_T, c_T, c_T, c_T] [k_c f1_, k_c f6_, k_c f11_, k_c f16_, k_c f21_, k_c f26_, k_c f34_, k_c f36_, k_c f38_, k_c f40_, k_c f42_, k_c f44_, k_c f46_, k_c f48_, k_c f50_, k_c f52_] (by kernel_rfl)
  have h61_ := (if_neg b60_).symm.trans h58_
  have b62_ : r26 = (0 : Int) := by first | exact b60_ | simpa using b60_
  by_cases b63_ : r32 ≠ (0 : Int)
  · have h64_ := (if_pos b63_).symm.trans h61_
    obtain rfl := Option.some.inj h64_
    exact con_pc (op := true) (I := [7]) (sp := law7_sp) 3000 (bF 35 (bT 32 [])) [.one (.bool r0), .one (.bool r1), .one (.bool r2), iD r3, iD r4, .one (.bool r5), .agg [.list k6 c7, .list k8 c9], .tup [.agg [iD r10, iD r11], iD r12], .agg [.list k13 c14, .list k15 c16], .tup [.agg [iD r17, iD r18], iD r19], .agg [.list k20 c21, .list k22 c23], .tup [.agg [iD r24, iD r25], iD r26], .agg [.list k27 c28, .list k29 c30], .tup [iD r31, iD r32], .agg [.list k33 c34, .list k35 c36], .tup [iD r37, iD r38]] [c_nn b5_, c_nn b10_, c_nn b10_, c_nn b10_, c_nn b10_, c_nn b15_, c_nn b15_, c_nn b15_, c_nn b15_, c_bn b20_, c_bn b20_, c_bn b20_, c_bn b20_, c_bn b25_, c_bn b25_, c_bn b25_, c_bn b25_, c_nn b30_, c_nn b30_, c_nn b30_, c_nn b30_, c_nn b30_, c_nn b30_, c_nn b30_, c_nn b30_, c_bn b33_, c_bn b56_, c_bn b56_, c_bn b56_, c_bn b59_, c_bn b59_, c_bn b59_, c_bn b62_, c_bn b62_, c_bn b62_, c_b b63_, c_b b63_, c_b b63_, c_T, c_T, c_T, c_T, c_T, c_T, c_T, c_T, c_T, c_T, c_T, c_T, c_T, c_T, c_T, c_T, c_T, c_T, c_T, c_T, c_T, c_T, c_T, c_T, c_T, c_T, c_T, c_T, c_T] [k_c f1_, k_c f6_, k_c f11_, k_c f16_, k_c f21_, k_c f26_, k_c f34_, k_c f36_, k_c f38_, k_c f40_, k_c f42_, k_c f44_, k_c f46_, k_c f48_, k_c f50_, k_c f52_] (by kernel_rfl)
  have h64_ := (if_neg b63_).symm.trans h61_
  have b65_ : r32 = (0 : Int) := by first | exact b63_ | simpa using b63_
  by_cases b66_ : r38 ≠ (0 : Int)
  · have h67_ := (if_pos b66_).symm.trans h64_
    obtain rfl := Option.some.inj h67_
    exact con_pc (op := true) (I := [7]) (sp := law7_sp) 3000 (bF 38 (bT 29 [])) [.one (.bool r0), .one (.bool r1), .one (.bool r2), iD r3, iD r4, .one (.bool r5), .agg [.list k6 c7, .list k8 c9], .tup [.agg [iD r10, iD r11], iD r12], .agg [.list k13 c14, .list k15 c16], .tup [.agg [iD r17, iD r18], iD r19], .agg [.list k20 c21, .list k22 c23], .tup [.agg [iD r24, iD r25], iD r26], .agg [.list k27 c28, .list k29 c30], .tup [iD r31, iD r32], .agg [.list k33 c34, .list k35 c36], .tup [iD r37, iD r38]] [c_nn b5_, c_nn b10_, c_nn b10_, c_nn b10_, c_nn b10_, c_nn b15_, c_nn b15_, c_nn b15_, c_nn b15_, c_bn b20_, c_bn b20_, c_bn b20_, c_bn b20_, c_bn b25_, c_bn b25_, c_bn b25_, c_bn b25_, c_nn b30_, c_nn b30_, c_nn b30_, c_nn b30_, c_nn b30_, c_nn b30_, c_nn b30_, c_nn b30_, c_bn b33_, c_bn b56_, c_bn b56_, c_bn b56_, c_bn b59_, c_bn b59_, c_bn b59_, c_bn b62_, c_bn b62_, c_bn b62_, c_bn b65_, c_bn b65_, c_bn b65_, c_b b66_, c_b b66_, c_b b66_, c_b b66_, c_b b66_, c_b b66_, c_T, c_T, c_T, c_T, c_T, c_T, c_T, c_T, c_T, c_T, c_T, c_T, c_T, c_T, c_T, c_T, c_T, c_T, c_T, c_T, c_T, c_T, c_T] [k_c f1_, k_c f6_, k_c f11_, k_c f16_, k_c f21_, k_c f26_, k_c f34_, k_c f36_, k_c f38_, k_c f40_, k_c f42_, k_c f44_, k_c f46_, k_c f48_, k_c f50_, k_c f52_] (by kernel_rfl)
  have h67_ := (if_neg b66_).symm.trans h64_
  have b68_ : r38 = (0 : Int) := by first | exact b66_ | simpa using b66_
  by_cases b69_ : (!(r24 == r31 && (r25 == r37 && true))) = true
  · have h70_ := (if_pos b69_).symm.trans h67_
    obtain rfl := Option.some.inj h70_
    exact con_pc (op := true) (I := [7]) (sp := law7_sp) 3000 (bF 44 (bT 23 [])) [.one (.bool r0), .one (.bool r1), .one (.bool r2), iD r3, iD r4, .one (.bool r5), .agg [.list k6 c7, .list k8 c9], .tup [.agg [iD r10, iD r11], iD r12], .agg [.list k13 c14, .list k15 c16], .tup [.agg [iD r17, iD r18], iD r19], .agg [.list k20 c21, .list k22 c23], .tup [.agg [iD r24, iD r25], iD r26], .agg [.list k27 c28, .list k29 c30], .tup [iD r31, iD r32], .agg [.list k33 c34, .list k35 c36], .tup [iD r37, iD r38]] [c_nn b5_, c_nn b10_, c_nn b10_, c_nn b10_, c_nn b10_, c_nn b15_, c_nn b15_, c_nn b15_, c_nn b15_, c_bn b20_, c_bn b20_, c_bn b20_, c_bn b20_, c_bn b25_, c_bn b25_, c_bn b25_, c_bn b25_, c_nn b30_, c_nn b30_, c_nn b30_, c_nn b30_, c_nn b30_, c_nn b30_, c_nn b30_, c_nn b30_, c_bn b33_, c_bn b56_, c_bn b56_, c_bn b56_, c_bn b59_, c_bn b59_, c_bn b59_, c_bn b62_, c_bn b62_, c_bn b62_, c_bn b65_, c_bn b65_, c_bn b65_, c_bn b68_, c_bn b68_, c_bn b68_, c_bn b68_, c_bn b68_, c_bn b68_, c_q b69_, c_q b69_, c_q b69_, c_q b69_, c_q b69_, c_q b69_, c_T, c_T, c_T, c_T, c_T, c_T, c_T, c_T, c_T, c_T, c_T, c_T, c_T, c_T, c_T, c_T, c_T] [k_c f1_, k_c f6_, k_c f11_, k_c f16_, k_c f21_, k_c f26_, k_c f34_, k_c f36_, k_c f38_, k_c f40_, k_c f42_, k_c f44_, k_c f46_, k_c f48_, k_c f50_, k_c f52_] (by kernel_rfl)
  have h70_ := (if_neg b69_).symm.trans h67_
  have b71_ : (!(r24 == r31 && (r25 == r37 && true))) = false := by first | exact b69_ | simpa using b69_
  by_cases b72_ : r10 > r17
  · have h73_ := (if_pos b72_).symm.trans h70_
    obtain rfl := Option.some.inj h73_
    exact con_pc (op := true) (I := [7]) (sp := law7_sp) 3000 (bF 50 (bT 17 [])) [.one (.bool r0), .one (.bool r1), .one (.bool r2), iD r3, iD r4, .one (.bool r5), .agg [.list k6 c7, .list k8 c9], .tup [.agg [iD r10, iD r11], iD r12], .agg [.list k13 c14, .list k15 c16], .tup [.agg [iD r17, iD r18], iD r19], .agg [.list k20 c21, .list k22 c23], .tup [.agg [iD r24, iD r25], iD r26], .agg [.list k27 c28, .list k29 c30], .tup [iD r31, iD r32], .agg [.list k33 c34, .list k35 c36], .tup [iD r37, iD r38]] [c_nn b5_, c_nn b10_, c_nn b10_, c_nn b10_, c_nn b10_, c_nn b15_, c_nn b15_, c_nn b15_, c_nn b15_, c_bn b20_, c_bn b20_, c_bn b20_, c_bn b20_, c_bn b25_, c_bn b25_, c_bn b25_, c_bn b25_, c_nn b30_, c_nn b30_, c_nn b30_, c_nn b30_, c_nn b30_, c_nn b30_, c_nn b30_, c_nn b30_, c_bn b33_, c_bn b56_, c_bn b56_, c_bn b56_, c_bn b59_, c_bn b59_, c_bn b59_, c_bn b62_, c_bn b62_, c_bn b62_, c_bn b65_, c_bn b65_, c_bn b65_, c_bn b68_, c_bn b68_, c_bn b68_, c_bn b68_, c_bn b68_, c_bn b68_, c_q b71_, c_q b71_, c_q b71_, c_q b71_, c_q b71_, c_q b71_, c_d b72_, c_d b72_, c_d b72_, c_d b72_, c_d b72_, c_d b72_, c_T, c_T, c_T, c_T, c_T, c_T, c_T, c_T, c_T, c_T, c_T] [k_c f1_, k_c f6_, k_c f11_, k_c f16_, k_c f21_, k_c f26_, k_c f34_, k_c f36_, k_c f38_, k_c f40_, k_c f42_, k_c f44_, k_c f46_, k_c f48_, k_c f50_, k_c f52_] (by kernel_rfl)
  have h73_ := (if_neg b72_).symm.trans h70_
  by_cases b74_ : r11 > r18
  · have h75_ := (if_pos b74_).symm.trans h73_
    obtain rfl := Option.some.inj h75_
    exact con_pc (op := true) (I := [7]) (sp := law7_sp) 3000 (bF 56 (bT 11 [])) [.one (.bool r0), .one (.bool r1), .one (.bool r2), iD r3, iD r4, .one (.bool r5), .agg [.list k6 c7, .list k8 c9], .tup [.agg [iD r10, iD r11], iD r12], .agg [.list k13 c14, .list k15 c16], .tup [.agg [iD r17, iD r18], iD r19], .agg [.list k20 c21, .list k22 c23], .tup [.agg [iD r24, iD r25], iD r26], .agg [.list k27 c28, .list k29 c30], .tup [iD r31, iD r32], .agg [.list k33 c34, .list k35 c36], .tup [iD r37, iD r38]] [c_nn b5_, c_nn b10_, c_nn b10_, c_nn b10_, c_nn b10_, c_nn b15_, c_nn b15_, c_nn b15_, c_nn b15_, c_bn b20_, c_bn b20_, c_bn b20_, c_bn b20_, c_bn b25_, c_bn b25_, c_bn b25_, c_bn b25_, c_nn b30_, c_nn b30_, c_nn b30_, c_nn b30_, c_nn b30_, c_nn b30_, c_nn b30_, c_nn b30_, c_bn b33_, c_bn b56_, c_bn b56_, c_bn b56_, c_bn b59_, c_bn b59_, c_bn b59_, c_bn b62_, c_bn b62_, c_bn b62_, c_bn b65_, c_bn b65_, c_bn b65_, c_bn b68_, c_bn b68_, c_bn b68_, c_bn b68_, c_bn b68_, c_bn b68_, c_q b71_, c_q b71_, c_q b71_, c_q b71_, c_q b71_, c_q b71_, c_n b72_, c_n b72_, c_n b72_, c_n b72_, c_n b72_, c_n b72_, c_d b74_, c_d b74_, c_d b74_, c_d b74_, c_d b74_, c_T, c_T, c_T, c_T, c_T, c_T] [k_c f1_, k_c f6_, k_c f11_, k_c f16_, k_c f21_, k_c f26_, k_c f34_, k_c f36_, k_c f38_, k_c f40_, k_c f42_, k_c f44_, k_c f46_, k_c f48_, k_c f50_, k_c f52_] (by kernel_rfl)
  have h75_ := (if_neg b74_).symm.trans h73_
  by_cases b76_ : r10 < r31
  · have h77_ := (if_pos b76_).symm.trans h75_
    obtain rfl := Option.some.inj h77_
    exact con_pc (op := true) (I := [7]) (sp := law7_sp) 3000 (bF 61 (bT 6 [])) [.one (.bool r0), .one (.bool r1), .one (.bool r2), iD r3, iD r4, .one (.bool r5), .agg [.list k6 c7, .list k8 c9], .tup [.agg [iD r10, iD r11], iD r12], .agg [.list k13 c14, .list k15 c16], .tup [.agg [iD r17, iD r18], iD r19], .agg [.list k20 c21, .list k22 c23], .tup [.agg [iD r24, iD r25], iD r26], .agg [.list k27 c28, .list k29 c30], .tup [iD r31, iD r32], .agg [.list k33 c34, .list k35 c36], .tup [iD r37, iD r38]] [c_nn b5_, c_nn b10_, c_nn b10_, c_nn b10_, c_nn b10_, c_nn b15_, c_nn b15_, c_nn b15_, c_nn b15_, c_bn b20_, c_bn b20_, c_bn b20_, c_bn b20_, c_bn b25_, c_bn b25_, c_bn b25_, c_bn b25_, c_nn b30_, c_nn b30_, c_nn b30_, c_nn b30_, c_nn b30_, c_nn b30_, c_nn b30_, c_nn b30_, c_bn b33_, c_bn b56_, c_bn b56_, c_bn b56_, c_bn b59_, c_bn b59_, c_bn b59_, c_bn b62_, c_bn b62_, c_bn b62_, c_bn b65_, c_bn b65_, c_bn b65_, c_bn b68_, c_bn b68_, c_bn b68_, c_bn b68_, c_bn b68_, c_bn b68_, c_q b71_, c_q b71_, c_q b71_, c_q b71_, c_q b71_, c_q b71_, c_n b72_, c_n b72_, c_n b72_, c_n b72_, c_n b72_, c_n b72_, c_n b74_, c_n b74_, c_n b74_, c_n b74_, c_n b74_, c_d b76_, c_d b76_, c_d b76_, c_d b76_, c_d b76_, c_T] [k_c f1_, k_c f6_, k_c f11_, k_c f16_, k_c f21_, k_c f26_, k_c f34_, k_c f36_, k_c f38_, k_c f40_, k_c f42_, k_c f44_, k_c f46_, k_c f48_, k_c f50_, k_c f52_] (by kernel_rfl)
  have h77_ := (if_neg b76_).symm.trans h75_
  by_cases b78_ : r11 < r37
  · have h79_ := (if_pos b78_).symm.trans h77_
    obtain rfl := Option.some.inj h79_
    exact con_pc (op := true) (I := [7]) (sp := law7_sp) 3000 (bF 66 (bT 1 [])) [.one (.bool r0), .one (.bool r1), .one (.bool r2), iD r3, iD r4, .one (.bool r5), .agg [.list k6 c7, .list k8 c9], .tup [.agg [iD r10, iD r11], iD r12], .agg [.list k13 c14, .list k15 c16], .tup [.agg [iD r17, iD r18], iD r19], .agg [.list k20 c21, .list k22 c23], .tup [.agg [iD r24, iD r25], iD r26], .agg [.list k27 c28, .list k29 c30], .tup [iD r31, iD r32], .agg [.list k33 c34, .list k35 c36], .tup [iD r37, iD r38]] [c_nn b5_, c_nn b10_, c_nn b10_, c_nn b10_, c_nn b10_, c_nn b15_, c_nn b15_, c_nn b15_, c_nn b15_, c_bn b20_, c_bn b20_, c_bn b20_, c_bn b20_, c_bn b25_, c_bn b25_, c_bn b25_, c_bn b25_, c_nn b30_, c_nn b30_, c_nn b30_, c_nn b30_, c_nn b30_, c_nn b30_, c_nn b30_, c_nn b30_, c_bn b33_, c_bn b56_, c_bn b56_, c_bn b56_, c_bn b59_, c_bn b59_, c_bn b59_, c_bn b62_, c_bn b62_, c_bn b62_, c_bn b65_, c_bn b65_, c_bn b65_, c_bn b68_, c_bn b68_, c_bn b68_, c_bn b68_, c_bn b68_, c_bn b68_, c_q b71_, c_q b71_, c_q b71_, c_q b71_, c_q b71_, c_q b71_, c_n b72_, c_n b72_, c_n b72_, c_n b72_, c_n b72_, c_n b72_, c_n b74_, c_n b74_, c_n b74_, c_n b74_, c_n b74_, c_n b76_, c_n b76_, c_n b76_, c_n b76_, c_n b76_, c_d b78_] [k_c f1_, k_c f6_, k_c f11_, k_c f16_, k_c f21_, k_c f26_, k_c f34_, k_c f36_, k_c f38_, k_c f40_, k_c f42_, k_c f44_, k_c f46_, k_c f48_, k_c f50_, k_c f52_] (by kernel_rfl)
  have h79_ := (if_neg b78_).symm.trans h77_
  obtain ⟨j, ds, e80_, h81_⟩ := bindL_elim h79_
  by_cases j82_ : j = 0
  · have h85_ := (if_pos j82_).symm.trans h81_
    clear h81_
    subst j82_
    obtain ⟨⟨⟩, e83_, h86_⟩ := pullD_elim h85_
    clear h85_
    obtain rfl := tup_inj e83_
    have k84_ := law7_L13_in0 ka ca kb cb kc cc kd cd tol r0 r1 r2 r3 r4 r5 k6 c7 k8 c9 r10 r11 r12 k13 c14 k15 c16 r17 r18 r19 k20 c21 k22 c23 r24 r25 r26 k27 c28 k29 c30 r31 r32 k33 c34 k35 c36 r37 r38 e80_
    obtain ⟨⟨k39, c40, k41, c42⟩, f87_, h88_⟩ := pullD_elim h86_
    replace f87_ := m_11_ok f87_
    obtain ⟨⟨k43, c44, k45, c46, r47⟩, f89_, h90_⟩ := pullD_elim h88_
    replace f89_ := m_13_ok f89_
    by_cases b91_ : r47 ≠ (0 : Int)
    · have h92_ := (if_pos b91_).symm.trans h90_
      obtain rfl := Option.some.inj h92_
      exact con_pc (op := true) (I := [7]) (sp := law7_sp) 3000 (bF 67 (bT 1 [])) [.one (.bool r0), .one (.bool r1), .one (.bool r2), iD r3, iD r4, .one (.bool r5), .agg [.list k6 c7, .list k8 c9], .tup [.agg [iD r10, iD r11], iD r12], .agg [.list k13 c14, .list k15 c16], .tup [.agg [iD r17, iD r18], iD r19], .agg [.list k20 c21, .list k22 c23], .tup [.agg [iD r24, iD r25], iD r26], .agg [.list k27 c28, .list k29 c30], .tup [iD r31, iD r32], .agg [.list k33 c34, .list k35 c36], .tup [iD r37, iD r38], .tup [iD (Int.ofNat 0)], .agg [.list k39 c40, .list k41 c42], .tup [.agg [.list k43 c44, .list k45 c46], iD r47]] [c_nn b5_, c_nn b10_, c_nn b10_, c_nn b10_, c_nn b10_, c_nn b15_, c_nn b15_, c_nn b15_, c_nn b15_, c_bn b20_, c_bn b20_, c_bn b20_, c_bn b20_, c_bn b25_, c_bn b25_, c_bn b25_, c_bn b25_, c_nn b30_, c_nn b30_, c_nn b30_, c_nn b30_, c_nn b30_, c_nn b30_, c_nn b30_, c_nn b30_, c_bn b33_, c_bn b56_, c_bn b56_, c_bn b56_, c_bn b59_, c_bn b59_, c_bn b59_, c_bn b62_, c_bn b62_, c_bn b62_, c_bn b65_, c_bn b65_, c_bn b65_, c_bn b68_, c_bn b68_, c_bn b68_, c_bn b68_, c_bn b68_, c_bn b68_, c_q b71_, c_q b71_, c_q b71_, c_q b71_, c_q b71_, c_q b71_, c_n b72_, c_n b72_, c_n b72_, c_n b72_, c_n b72_, c_n b72_, c_n b74_, c_n b74_, c_n b74_, c_n b74_, c_n b74_, c_n b76_, c_n b76_, c_n b76_, c_n b76_, c_n b76_, c_n b78_, c_b b91_] [k_c f1_, k_c f6_, k_c f11_, k_c f16_, k_c f21_, k_c f26_, k_c f34_, k_c f36_, k_c f38_, k_c f40_, k_c f42_, k_c f44_, k_c f46_, k_c f48_, k_c f50_, k_c f52_, k_l k84_ (bT 1 []) [.tup [iD (Int.ofNat 0)], .agg [.list k39 c40, .list k41 c42], .tup [.agg [.list k43 c44, .list k45 c46], iD r47]] [.agg [.list k39 c40, .list k41 c42], .tup [.agg [.list k43 c44, .list k45 c46], iD r47]], k_c f87_, k_c f89_] (by kernel_rfl)
    have h92_ := (if_neg b91_).symm.trans h90_
    have b93_ : r47 = (0 : Int) := by first | exact b91_ | simpa using b91_
    obtain ⟨j, ds, e94_, h95_⟩ := bindL_elim h92_
    by_cases j96_ : j = 0
    · have h99_ := (if_pos j96_).symm.trans h95_
      clear h95_
      subst j96_
      obtain ⟨⟨⟩, e97_, h100_⟩ := pullD_elim h99_
      clear h99_
      obtain rfl := tup_inj e97_
      have k98_ := law7_L24_in0 ka ca kb cb kc cc kd cd tol r0 r1 r2 r3 r4 r5 k6 c7 k8 c9 r10 r11 r12 k13 c14 k15 c16 r17 r18 r19 k20 c21 k22 c23 r24 r25 r26 k27 c28 k29 c30 r31 r32 k33 c34 k35 c36 r37 r38 k39 c40 k41 c42 k43 c44 k45 c46 r47 e94_
      obtain ⟨j, ds, e101_, h102_⟩ := bindL_elim h100_
      by_cases j103_ : j = 0
      · have h106_ := (if_pos j103_).symm.trans h102_
        clear h102_
        subst j103_
        obtain ⟨⟨⟩, e104_, h107_⟩ := pullD_elim h106_
        clear h106_
        obtain rfl := tup_inj e104_
        have k105_ := law7_L24_2_in0 ka ca kb cb kc cc kd cd tol r0 r1 r2 r3 r4 r5 k6 c7 k8 c9 r10 r11 r12 k13 c14 k15 c16 r17 r18 r19 k20 c21 k22 c23 r24 r25 r26 k27 c28 k29 c30 r31 r32 k33 c34 k35 c36 r37 r38 k39 c40 k41 c42 k43 c44 k45 c46 r47 e101_
        obtain rfl := Option.some.inj h107_
        exact con_pc (op := true) (I := [7]) (sp := law7_sp) 3000 (bF 68 (bT 2 (bF 1 []))) [.one (.bool r0), .one (.bool r1), .one (.bool r2), iD r3, iD r4, .one (.bool r5), .agg [.list k6 c7, .list k8 c9], .tup [.agg [iD r10, iD r11], iD r12], .agg [.list k13 c14, .list k15 c16], .tup [.agg [iD r17, iD r18], iD r19], .agg [.list k20 c21, .list k22 c23], .tup [.agg [iD r24, iD r25], iD r26], .agg [.list k27 c28, .list k29 c30], .tup [iD r31, iD r32], .agg [.list k33 c34, .list k35 c36], .tup [iD r37, iD r38], .tup [iD (Int.ofNat 0)], .agg [.list k39 c40, .list k41 c42], .tup [.agg [.list k43 c44, .list k45 c46], iD r47], .tup [iD (Int.ofNat 0)], .tup [iD (Int.ofNat 0)]] [c_nn b5_, c_nn b10_, c_nn b10_, c_nn b10_, c_nn b10_, c_nn b15_, c_nn b15_, c_nn b15_, c_nn b15_, c_bn b20_, c_bn b20_, c_bn b20_, c_bn b20_, c_bn b25_, c_bn b25_, c_bn b25_, c_bn b25_, c_nn b30_, c_nn b30_, c_nn b30_, c_nn b30_, c_nn b30_, c_nn b30_, c_nn b30_, c_nn b30_, c_bn b33_, c_bn b56_, c_bn b56_, c_bn b56_, c_bn b59_, c_bn b59_, c_bn b59_, c_bn b62_, c_bn b62_, c_bn b62_, c_bn b65_, c_bn b65_, c_bn b65_, c_bn b68_, c_bn b68_, c_bn b68_, c_bn b68_, c_bn b68_, c_bn b68_, c_q b71_, c_q b71_, c_q b71_, c_q b71_, c_q b71_, c_q b71_, c_n b72_, c_n b72_, c_n b72_, c_n b72_, c_n b72_, c_n b72_, c_n b74_, c_n b74_, c_n b74_, c_n b74_, c_n b74_, c_n b76_, c_n b76_, c_n b76_, c_n b76_, c_n b76_, c_n b78_, c_bn b93_, c_T, c_T, c_F] [k_c f1_, k_c f6_, k_c f11_, k_c f16_, k_c f21_, k_c f26_, k_c f34_, k_c f36_, k_c f38_, k_c f40_, k_c f42_, k_c f44_, k_c f46_, k_c f48_, k_c f50_, k_c f52_, k_l k84_ (bF 1 (bT 2 (bF 1 []))) [.tup [iD (Int.ofNat 0)], .agg [.list k39 c40, .list k41 c42], .tup [.agg [.list k43 c44, .list k45 c46], iD r47], .tup [iD (Int.ofNat 0)], .tup [iD (Int.ofNat 0)]] [.agg [.list k39 c40, .list k41 c42], .tup [.agg [.list k43 c44, .list k45 c46], iD r47], .tup [iD (Int.ofNat 0)], .tup [iD (Int.ofNat 0)]], k_c f87_, k_c f89_, k_l k98_ (bT 1 (bF 1 [])) [.tup [iD (Int.ofNat 0)], .tup [iD (Int.ofNat 0)]] [.tup [iD (Int.ofNat 0)]], k_l k105_ (bF 1 []) [.tup [iD (Int.ofNat 0)]] []] (by kernel_rfl)
      have h108_ := (if_neg j103_).symm.trans h102_
      clear h102_
      by_cases j109_ : j = 1
      · have h112_ := (if_pos j109_).symm.trans h108_
        clear h108_
        subst j109_
        obtain ⟨l48, e110_, h113_⟩ := pullD_elim h112_
        clear h112_
        obtain rfl := tup_inj e110_
        have k111_ := law7_L24_2_in1 ka ca kb cb kc cc kd cd tol r0 r1 r2 r3 r4 r5 k6 c7 k8 c9 r10 r11 r12 k13 c14 k15 c16 r17 r18 r19 k20 c21 k22 c23 r24 r25 r26 k27 c28 k29 c30 r31 r32 k33 c34 k35 c36 r37 r38 k39 c40 k41 c42 k43 c44 k45 c46 r47 e101_
        obtain rfl := Option.some.inj h113_
        exact con_pc (op := true) (I := [7]) (sp := law7_sp) 3000 (bF 68 (bT 2 [])) [.one (.bool r0), .one (.bool r1), .one (.bool r2), iD r3, iD r4, .one (.bool r5), .agg [.list k6 c7, .list k8 c9], .tup [.agg [iD r10, iD r11], iD r12], .agg [.list k13 c14, .list k15 c16], .tup [.agg [iD r17, iD r18], iD r19], .agg [.list k20 c21, .list k22 c23], .tup [.agg [iD r24, iD r25], iD r26], .agg [.list k27 c28, .list k29 c30], .tup [iD r31, iD r32], .agg [.list k33 c34, .list k35 c36], .tup [iD r37, iD r38], .tup [iD (Int.ofNat 0)], .agg [.list k39 c40, .list k41 c42], .tup [.agg [.list k43 c44, .list k45 c46], iD r47], .tup [iD (Int.ofNat 0)], .tup [iD (Int.ofNat 1), .one (.bool l48)]] [c_nn b5_, c_nn b10_, c_nn b10_, c_nn b10_, c_nn b10_, c_nn b15_, c_nn b15_, c_nn b15_, c_nn b15_, c_bn b20_, c_bn b20_, c_bn b20_, c_bn b20_, c_bn b25_, c_bn b25_, c_bn b25_, c_bn b25_, c_nn b30_, c_nn b30_, c_nn b30_, c_nn b30_, c_nn b30_, c_nn b30_, c_nn b30_, c_nn b30_, c_bn b33_, c_bn b56_, c_bn b56_, c_bn b56_, c_bn b59_, c_bn b59_, c_bn b59_, c_bn b62_, c_bn b62_, c_bn b62_, c_bn b65_, c_bn b65_, c_bn b65_, c_bn b68_, c_bn b68_, c_bn b68_, c_bn b68_, c_bn b68_, c_bn b68_, c_q b71_, c_q b71_, c_q b71_, c_q b71_, c_q b71_, c_q b71_, c_n b72_, c_n b72_, c_n b72_, c_n b72_, c_n b72_, c_n b72_, c_n b74_, c_n b74_, c_n b74_, c_n b74_, c_n b74_, c_n b76_, c_n b76_, c_n b76_, c_n b76_, c_n b76_, c_n b78_, c_bn b93_, c_T, c_T] [k_c f1_, k_c f6_, k_c f11_, k_c f16_, k_c f21_, k_c f26_, k_c f34_, k_c f36_, k_c f38_, k_c f40_, k_c f42_, k_c f44_, k_c f46_, k_c f48_, k_c f50_, k_c f52_, k_l k84_ (bF 1 (bT 2 [])) [.tup [iD (Int.ofNat 0)], .agg [.list k39 c40, .list k41 c42], .tup [.agg [.list k43 c44, .list k45 c46], iD r47], .tup [iD (Int.ofNat 0)], .tup [iD (Int.ofNat 1), .one (.bool l48)]] [.agg [.list k39 c40, .list k41 c42], .tup [.agg [.list k43 c44, .list k45 c46], iD r47], .tup [iD (Int.ofNat 0)], .tup [iD (Int.ofNat 1), .one (.bool l48)]], k_c f87_, k_c f89_, k_l k98_ (bT 1 []) [.tup [iD (Int.ofNat 0)], .tup [iD (Int.ofNat 1), .one (.bool l48)]] [.tup [iD (Int.ofNat 1), .one (.bool l48)]], k_l k111_ [] [.tup [iD (Int.ofNat 1), .one (.bool l48)]] []] (by kernel_rfl)
      have h114_ := (if_neg j109_).symm.trans h108_
      clear h108_
      cases h114_
    have h115_ := (if_neg j96_).symm.trans h95_
    clear h95_
    by_cases j116_ : j = 1
    · have h119_ := (if_pos j116_).symm.trans h115_
      clear h115_
      subst j116_
      obtain ⟨l49, e117_, h120_⟩ := pullD_elim h119_
      clear h119_
      obtain rfl := tup_inj e117_
      have k118_ := law7_L24_in1 ka ca kb cb kc cc kd cd tol r0 r1 r2 r3 r4 r5 k6 c7 k8 c9 r10 r11 r12 k13 c14 k15 c16 r17 r18 r19 k20 c21 k22 c23 r24 r25 r26 k27 c28 k29 c30 r31 r32 k33 c34 k35 c36 r37 r38 k39 c40 k41 c42 k43 c44 k45 c46 r47 e94_
      obtain rfl := Option.some.inj h120_
      exact con_pc (op := true) (I := [7]) (sp := law7_sp) 3000 (bF 68 (bT 1 [])) [.one (.bool r0), .one (.bool r1), .one (.bool r2), iD r3, iD r4, .one (.bool r5), .agg [.list k6 c7, .list k8 c9], .tup [.agg [iD r10, iD r11], iD r12], .agg [.list k13 c14, .list k15 c16], .tup [.agg [iD r17, iD r18], iD r19], .agg [.list k20 c21, .list k22 c23], .tup [.agg [iD r24, iD r25], iD r26], .agg [.list k27 c28, .list k29 c30], .tup [iD r31, iD r32], .agg [.list k33 c34, .list k35 c36], .tup [iD r37, iD r38], .tup [iD (Int.ofNat 0)], .agg [.list k39 c40, .list k41 c42], .tup [.agg [.list k43 c44, .list k45 c46], iD r47], .tup [iD (Int.ofNat 1), .one (.bool l49)]] [c_nn b5_, c_nn b10_, c_nn b10_, c_nn b10_, c_nn b10_, c_nn b15_, c_nn b15_, c_nn b15_, c_nn b15_, c_bn b20_, c_bn b20_, c_bn b20_, c_bn b20_, c_bn b25_, c_bn b25_, c_bn b25_, c_bn b25_, c_nn b30_, c_nn b30_, c_nn b30_, c_nn b30_, c_nn b30_, c_nn b30_, c_nn b30_, c_nn b30_, c_bn b33_, c_bn b56_, c_bn b56_, c_bn b56_, c_bn b59_, c_bn b59_, c_bn b59_, c_bn b62_, c_bn b62_, c_bn b62_, c_bn b65_, c_bn b65_, c_bn b65_, c_bn b68_, c_bn b68_, c_bn b68_, c_bn b68_, c_bn b68_, c_bn b68_, c_q b71_, c_q b71_, c_q b71_, c_q b71_, c_q b71_, c_q b71_, c_n b72_, c_n b72_, c_n b72_, c_n b72_, c_n b72_, c_n b72_, c_n b74_, c_n b74_, c_n b74_, c_n b74_, c_n b74_, c_n b76_, c_n b76_, c_n b76_, c_n b76_, c_n b76_, c_n b78_, c_bn b93_, c_T] [k_c f1_, k_c f6_, k_c f11_, k_c f16_, k_c f21_, k_c f26_, k_c f34_, k_c f36_, k_c f38_, k_c f40_, k_c f42_, k_c f44_, k_c f46_, k_c f48_, k_c f50_, k_c f52_, k_l k84_ (bF 1 (bT 1 [])) [.tup [iD (Int.ofNat 0)], .agg [.list k39 c40, .list k41 c42], .tup [.agg [.list k43 c44, .list k45 c46], iD r47], .tup [iD (Int.ofNat 1), .one (.bool l49)]] [.agg [.list k39 c40, .list k41 c42], .tup [.agg [.list k43 c44, .list k45 c46], iD r47], .tup [iD (Int.ofNat 1), .one (.bool l49)]], k_c f87_, k_c f89_, k_l k118_ [] [.tup [iD (Int.ofNat 1), .one (.bool l49)]] []] (by kernel_rfl)
    have h121_ := (if_neg j116_).symm.trans h115_
    clear h115_
    cases h121_
  have h122_ := (if_neg j82_).symm.trans h81_
  clear h81_
  by_cases j123_ : j = 1
  · have h126_ := (if_pos j123_).symm.trans h122_
    clear h122_
    subst j123_
    obtain ⟨l50, e124_, h127_⟩ := pullD_elim h126_
    clear h126_
    obtain rfl := tup_inj e124_
    have k125_ := law7_L13_in1 ka ca kb cb kc cc kd cd tol r0 r1 r2 r3 r4 r5 k6 c7 k8 c9 r10 r11 r12 k13 c14 k15 c16 r17 r18 r19 k20 c21 k22 c23 r24 r25 r26 k27 c28 k29 c30 r31 r32 k33 c34 k35 c36 r37 r38 e80_
    obtain rfl := Option.some.inj h127_
    exact con_pc (op := true) (I := [7]) (sp := law7_sp) 3000 (bF 67 []) [.one (.bool r0), .one (.bool r1), .one (.bool r2), iD r3, iD r4, .one (.bool r5), .agg [.list k6 c7, .list k8 c9], .tup [.agg [iD r10, iD r11], iD r12], .agg [.list k13 c14, .list k15 c16], .tup [.agg [iD r17, iD r18], iD r19], .agg [.list k20 c21, .list k22 c23], .tup [.agg [iD r24, iD r25], iD r26], .agg [.list k27 c28, .list k29 c30], .tup [iD r31, iD r32], .agg [.list k33 c34, .list k35 c36], .tup [iD r37, iD r38], .tup [iD (Int.ofNat 1), .one (.bool l50)]] [c_nn b5_, c_nn b10_, c_nn b10_, c_nn b10_, c_nn b10_, c_nn b15_, c_nn b15_, c_nn b15_, c_nn b15_, c_bn b20_, c_bn b20_, c_bn b20_, c_bn b20_, c_bn b25_, c_bn b25_, c_bn b25_, c_bn b25_, c_nn b30_, c_nn b30_, c_nn b30_, c_nn b30_, c_nn b30_, c_nn b30_, c_nn b30_, c_nn b30_, c_bn b33_, c_bn b56_, c_bn b56_, c_bn b56_, c_bn b59_, c_bn b59_, c_bn b59_, c_bn b62_, c_bn b62_, c_bn b62_, c_bn b65_, c_bn b65_, c_bn b65_, c_bn b68_, c_bn b68_, c_bn b68_, c_bn b68_, c_bn b68_, c_bn b68_, c_q b71_, c_q b71_, c_q b71_, c_q b71_, c_q b71_, c_q b71_, c_n b72_, c_n b72_, c_n b72_, c_n b72_, c_n b72_, c_n b72_, c_n b74_, c_n b74_, c_n b74_, c_n b74_, c_n b74_, c_n b76_, c_n b76_, c_n b76_, c_n b76_, c_n b76_, c_n b78_] [k_c f1_, k_c f6_, k_c f11_, k_c f16_, k_c f21_, k_c f26_, k_c f34_, k_c f36_, k_c f38_, k_c f40_, k_c f42_, k_c f44_, k_c f46_, k_c f48_, k_c f50_, k_c f52_, k_l k125_ [] [.tup [iD (Int.ofNat 1), .one (.bool l50)]] []] (by kernel_rfl)
  have h128_ := (if_neg j123_).symm.trans h122_
  clear h122_
  cases h128_
def m_7 (ds : List D) : Option D := pullD (α := Nat × (List D) × Nat × (List D) × Nat × (List D) × Nat × (List D) × Int) (some (.tup ds)) (fun d => ((D.ln (D.at (D.at d 0) 0)), (D.lc (D.at (D.at d 0) 0)), (D.ln (D.at (D.at d 0) 1)), (D.lc (D.at (D.at d 0) 1)), (D.ln (D.at (D.at d 1) 0)), (D.lc (D.at (D.at d 1) 0)), (D.ln (D.at (D.at d 1) 1)), (D.lc (D.at (D.at d 1) 1)), (D.vi (D.at d 2)))) (fun (ka, ca, kb, cb, kc, cc, kd, cd, tol) => .tup [.agg [.list ka ca, .list kb cb], .agg [.list kc cc, .list kd cd], iD tol]) fun (ka, ca, kb, cb, kc, cc, kd, cd, tol) => law7_M ka ca kb cb kc cc kd cd tol
theorem m_7_ok {ds : List D} {r : D} (h : m_7 ds = some r) : Con 7 ds r := by
  unfold m_7 at h
  obtain ⟨⟨ka, ca, kb, cb, kc, cc, kd, cd, tol⟩, e0, h0⟩ := pullD_elim h
  obtain rfl := tup_inj e0
  exact law7_M_ok ka ca kb cb kc cc kd cd tol h0
theorem m_7_eq (ka : Nat) (ca : List D) (kb : Nat) (cb : List D) (kc : Nat) (cc : List D) (kd : Nat) (cd : List D) (tol : Int) : m_7 [.agg [.list ka ca, .list kb cb], .agg [.list kc cc, .list kd cd], iD tol] = law7_M ka ca kb cb kc cc kd cd tol := pullD_some (ka, ca, kb, cb, kc, cc, kd, cd, tol) rfl rfl
end
end Go.Proofs.Ytbfefnfmdkgfjaa
/- For all tolerances: the law. -/
namespace Go.Proofs.Ytbfefnfmdkgfjaa
open Go.Ev Go.RowKit
set_option maxRecDepth 100000
noncomputable section
def st7a (x44 : List D) (x43 : Nat) (x10 : Int) (ds : List D) : Option Rd := pullD (α := Int) (some (.tup ds)) (fun d => ((D.vi (D.at d 0)))) (fun s21 => .tup [iD s21]) fun s21 => ((if s21 < (x43 : Int) then guardP ((0 : Int) ≤ s21 ∧ s21.toNat < x43) (pullD (α := Int) (readD x44 (s21.toNat * 1) 1 false) (fun d => ((D.vi d))) (fun v0 => iD v0) fun v0 => (pullD (α := Bool) (m_25 [iD v0, iD (IntKind.i64.wrap ((0 : Int) - x10)), iD x10]) (fun d => ((D.vb d))) (fun r1 => .one (.bool r1)) fun r1 => ((if r1 = false then some (.out 1 [.one (.bool false)]) else some (.next 0 [iD (IntKind.i64.wrap (s21 + (1 : Int)))]))))) else some (.out 0 [])))
def st7b (ka : Nat) (ca : List D) (kb : Nat) (cb : List D) (kc : Nat) (cc : List D) (kd : Nat) (cd : List D) (tol : Int) (ds : List D) : Option Rd := pullD (α := Int) (some (.tup ds)) (fun d => ((D.vi (D.at d 0)))) (fun s17 => .tup [iD s17]) fun s17 => ((if s17 < (ka : Int) then guardP ((0 : Int) ≤ s17 ∧ s17.toNat < ka) (pullD (α := Int) (readD ca (s17.toNat * 1) 1 false) (fun d => ((D.vi d))) (fun v0 => iD v0) fun v0 => (guardP ((0 : Int) ≤ s17 ∧ s17.toNat < kc) (pullD (α := Int) (readD cc (s17.toNat * 1) 1 false) (fun d => ((D.vi d))) (fun v1 => iD v1) fun v1 => (pullD (α := Bool) (m_25 [iD (IntKind.i64.wrap (v0 - v1)), iD (IntKind.i64.wrap ((0 : Int) - tol)), iD tol]) (fun d => ((D.vb d))) (fun r2 => .one (.bool r2)) fun r2 => ((if r2 = false then some (.out 1 [.one (.bool true)]) else guardP ((0 : Int) ≤ s17 ∧ s17.toNat < kb) (pullD (α := Int) (readD cb (s17.toNat * 1) 1 false) (fun d => ((D.vi d))) (fun v3 => iD v3) fun v3 => (guardP ((0 : Int) ≤ s17 ∧ s17.toNat < kd) (pullD (α := Int) (readD cd (s17.toNat * 1) 1 false) (fun d => ((D.vi d))) (fun v4 => iD v4) fun v4 => (pullD (α := Bool) (m_25 [iD (IntKind.i64.wrap (v3 - v4)), iD (IntKind.i64.wrap ((0 : Int) - tol)), iD tol]) (fun d => ((D.vb d))) (fun r5 => .one (.bool r5)) fun r5 => ((if r5 = false then some (.out 1 [.one (.bool true)]) else some (.next 0 [iD (IntKind.i64.wrap (s17 + (1 : Int)))]))))))))))))) else some (.out 0 [])))
end
theorem pullD_no {α β : Type} {d : D} {proj : D → α} {pat : α → D} {k : α → Option β} (h : pat (proj d) ≠ d) : pullD (some d) proj pat k = none := by
  unfold pullD
  simp only [h, if_false]
section
variable {a b c d : List Int}
theorem bounds_eq (h : Win a b) {e : Int} (h0 : 0 ≤ e) (he : e ≤ 20) : m_60 [wnD a b, iD e] = some (.agg [iD (bd a a b e a.length), iD (bd b a b e a.length)]) := by
  rw [m_60_eq]
  unfold bounds_M
  rw [show [D.agg [D.list a.length (a.map iD), D.list b.length (b.map iD)]] = [wnD a b] from rfl, residuals_eq h, pullD_some (a.length + 1, (tab (a.length + 1) (rs a b)).map iD) (by simp only [lD, tab_len]) (by rfl)]
  dsimp only
  have g1 := bounds_go h rfl h.ra h0 he (bounds_L8_S a.length (a.map iD) b.length (b.map iD) e (a.length + 1) ((tab (a.length + 1) (rs a b)).map iD)) (fun i m l u _ => [iD i, iD m, iD 0, iD l, iD u]) (fun m l u => [iD m, iD 0, iD l, iD u]) (fun i m l u => by
    show bounds_L8_S0 a.length (a.map iD) b.length (b.map iD) e (a.length + 1) ((tab (a.length + 1) (rs a b)).map iD) _ = _
    unfold bounds_L8_S0
    rw [pullD_some (i, m, 0, l, u) (by rfl) (by rfl)])
  rw [bindL_some g1, if_pos rfl, pullD_some (bd a a b e a.length, 0, lo a a b e a.length, hi a a b e a.length) (by rfl) (by rfl)]
  dsimp only
  have g2 := bounds_go h h.len h.rb h0 he (bounds_L8_1_S a.length (a.map iD) b.length (b.map iD) e (a.length + 1) ((tab (a.length + 1) (rs a b)).map iD) (bd a a b e a.length) 0 (lo a a b e a.length) (hi a a b e a.length)) (fun i m l u _ => [iD i, iD (bd a a b e a.length), iD m, iD l, iD u]) (fun m l u => [iD (bd a a b e a.length), iD m, iD l, iD u]) (fun i m l u => by
    show bounds_L8_1_S0 a.length (a.map iD) b.length (b.map iD) e (a.length + 1) ((tab (a.length + 1) (rs a b)).map iD) (bd a a b e a.length) 0 (lo a a b e a.length) (hi a a b e a.length) _ = _
    unfold bounds_L8_1_S0
    rw [pullD_some (i, bd a a b e a.length, m, l, u) (by rfl) (by rfl)])
  rw [bindL_some g2, if_pos rfl, pullD_some (bd a a b e a.length, bd b a b e a.length, lo b a b e a.length, hi b a b e a.length) (by rfl) (by rfl)]
theorem thrustBound_eq (h : Win a b) {e : Int} (h0 : 0 ≤ e) (he : e ≤ 20) : m_29 [wnD a b, iD e] = some (.tup [.agg [iD (bd a a b e a.length), iD (bd b a b e a.length)], iD 0]) := by
  rw [m_29_eq]
  unfold thrustBound_M
  rw [show [D.agg [D.list a.length (a.map iD), D.list b.length (b.map iD)]] = [wnD a b] from rfl, chkd_eq h, pullD_some (a.length, a.map iD, b.length, b.map iD, 0) (by rfl) (by rfl)]
  dsimp only
  rw [if_neg (by omega), if_neg (by omega), show [D.list 2 [iD 0, iD 0]] = [lD [0, 0]] from rfl, first_eq _ (by decide), pullD_some (0 : Int) (by rfl) (by rfl), if_neg (by decide), show [D.agg [D.list a.length (a.map iD), D.list b.length (b.map iD)], iD e] = [wnD a b, iD e] from rfl, bounds_eq h h0 he, pullD_some (bd a a b e a.length, bd b a b e a.length) (by rfl) (by rfl)]
theorem gSize_eq (n : Nat) (f : Nat → Int) (hn : n ≤ 1000) (hf : ∀ i, i < n → -1000000000000 ≤ f i ∧ f i ≤ 1000000000000) : m_69 [lD (tab n f)] = some (iD (maxTo f n)) := by
  rw [m_69_eq]
  unfold gSize_M
  have h1 : runR (gSize_L3_S (tab n f).length ((tab n f).map iD)) (.next 0 [iD 0, iD 0]) = _ := runR_scan (S := gSize_L3_S (tab n f).length ((tab n f).map iD)) (fun _ => 0) (fun i => [iD (maxTo f i), iD (i : Int)]) (Nat.zero_le n) (fun i _ hi => by
    have := hf i hi
    show gSize_L3_S0 (tab n f).length ((tab n f).map iD) _ = _
    unfold gSize_L3_S0
    rw [pullD_some (maxTo f i, (i : Int)) (by rfl) (by rfl)]
    dsimp only
    rw [tab_len, if_pos (by omega), guardP_pos (by omega), readT f hi, pullD_some (f i) (by rfl) (by rfl), max_eq, wrapJ (0 - f i) (by omega) (by omega), natI (by omega), Int.zero_sub]
    have : max (max (maxTo f i) (f i)) (-f i) = maxTo f (i + 1) := by
      have : maxTo f (i + 1) = max (maxTo f i) (max (f i) (-f i)) := rfl
      omega
    rw [this])
  have h2 : runR (gSize_L3_S (tab n f).length ((tab n f).map iD)) (.next 0 [iD (maxTo f n), iD (n : Int)]) = some (.out 0 [iD (maxTo f n)]) := runR_exit (by
    show gSize_L3_S0 (tab n f).length ((tab n f).map iD) _ = _
    unfold gSize_L3_S0
    rw [pullD_some (maxTo f n, (n : Int)) (by rfl) (by rfl)]
    dsimp only
    rw [tab_len, if_neg (by omega)])
  rw [bindL_some (h1.trans h2), if_pos rfl, pullD_some (maxTo f n) (by rfl) (by rfl)]
theorem unit0_eq (h : Win a b) : m_49 [wnD a b, iD 0] = some (iD (maxTo (th a a b) (a.length + 1))) := by
  unfold m_49
  have hle := h.le
  refine orElse_left ?_
  rw [m_49k0_eq]
  unfold unit0_M
  rw [show [D.agg [D.list a.length (a.map iD), D.list b.length (b.map iD)]] = [wnD a b] from rfl, thrusts_eq h, pullD_some ((tab (a.length + 1) (th a a b)).length, (tab (a.length + 1) (th a a b)).map iD, (tab (a.length + 1) (th b a b)).length, (tab (a.length + 1) (th b a b)).map iD) (by rfl) (by rfl)]
  dsimp only
  rw [show [D.list (tab (a.length + 1) (th a a b)).length ((tab (a.length + 1) (th a a b)).map iD)] = [lD (tab (a.length + 1) (th a a b))] from rfl, gSize_eq _ _ (by omega) (fun i hi => by have := th_bound h h.ra (k := i) (by omega); omega), pullD_some (maxTo (th a a b) (a.length + 1)) (by rfl) (by rfl)]
theorem unit1_eq (h : Win a b) : m_49 [wnD a b, iD 1] = some (iD (maxTo (th b a b) (a.length + 1))) := by
  unfold m_49
  have hle := h.le
  refine orElse_right ?_ (orElse_left ?_)
  · unfold m_49k0
    refine pullD_no fun e => ?_
    injection e with e
    injection e with _ e
    injection e with e _
    injection e with e
    injection e with _ e
    exact absurd e (by decide)
  rw [m_49k1_eq]
  unfold unit1_M
  rw [show [D.agg [D.list a.length (a.map iD), D.list b.length (b.map iD)]] = [wnD a b] from rfl, thrusts_eq h, pullD_some ((tab (a.length + 1) (th a a b)).length, (tab (a.length + 1) (th a a b)).map iD, (tab (a.length + 1) (th b a b)).length, (tab (a.length + 1) (th b a b)).map iD) (by rfl) (by rfl)]
  dsimp only
  rw [show [D.list (tab (a.length + 1) (th b a b)).length ((tab (a.length + 1) (th b a b)).map iD)] = [lD (tab (a.length + 1) (th b a b))] from rfl, gSize_eq _ _ (by omega) (fun i hi => by have := th_bound h h.rb (k := i) (by omega); omega), pullD_some (maxTo (th b a b) (a.length + 1)) (by rfl) (by rfl)]
theorem unitOf_eq (h : Win a b) {k u : Int} (hk : 0 ≤ k ∧ k < 4) (hu : m_49 [wnD a b, iD k] = some (iD u)) : m_15 [wnD a b, iD k] = some (.tup [iD u, iD 0]) := by
  have hc : m_48 [iD k] = some (iD 0) := by
    rw [m_48_eq]
    unfold chkKind_M
    rw [if_neg (by omega), if_neg (by omega)]
  rw [m_15_eq]
  unfold unitOf_M
  rw [show [D.agg [D.list a.length (a.map iD), D.list b.length (b.map iD)]] = [wnD a b] from rfl, chkd_eq h, pullD_some (a.length, a.map iD, b.length, b.map iD, 0) (by rfl) (by rfl)]
  dsimp only
  rw [hc, pullD_some (0 : Int) (by rfl) (by rfl), show [D.list 2 [iD 0, iD 0]] = [lD [0, 0]] from rfl, first_eq _ (by decide), pullD_some (0 : Int) (by rfl) (by rfl), if_neg (by decide), show [D.agg [D.list a.length (a.map iD), D.list b.length (b.map iD)], iD k] = [wnD a b, iD k] from rfl, hu, pullD_some u (by rfl) (by rfl)]
/-- The thrusts of the other window. -/
theorem go7a (n : Nat) (f : Nat → Int) (q : Int) (hn : n ≤ 1000) (hq : 0 ≤ q ∧ q ≤ 1000000000000) (hf : ∀ i, i < n → -q ≤ f i ∧ f i ≤ q) (S : Rd → Option Rd) (hS : ∀ ds, S (.next 0 ds) = st7a ((tab n f).map iD) n q ds) : runR S (.next 0 [iD 0]) = some (.out 0 []) := by
  have h1 : runR S (.next 0 [iD 0]) = _ := runR_scan (S := S) (fun _ => 0) (fun i => [iD (i : Int)]) (Nat.zero_le n) (fun i _ hi => by
    have := hf i hi
    show S (.next 0 _) = _
    rw [hS]
    unfold st7a
    rw [pullD_some (i : Int) (by rfl) (by rfl), if_pos (by omega), guardP_pos (by omega), readT f hi, pullD_some (f i) (by rfl) (by rfl), wrapJ (0 - q) (by omega) (by omega), within_eq, pullB, if_neg (by simp; omega), natI (by omega)])
  refine h1.trans (runR_exit ?_)
  rw [hS]
  unfold st7a
  rw [pullD_some (n : Int) (by rfl) (by rfl), if_neg (by omega)]
/-- Does the other window lie within the tolerance? -/
theorem go7b (h : Win a b) (k : Win c d) (hl : c.length = a.length) {e : Int} (h0 : 0 ≤ e ∧ e ≤ 20) (S : Rd → Option Rd) (hS : ∀ ds, S (.next 0 ds) = st7b a.length (a.map iD) b.length (b.map iD) c.length (c.map iD) d.length (d.map iD) e ds) :
    runR S (.next 0 [iD 0]) = some (.out 1 [.one (.bool true)]) ∨ (runR S (.next 0 [iD 0]) = some (.out 0 []) ∧ ∀ i, i < a.length → (-e ≤ at' a i - at' c i ∧ at' a i - at' c i ≤ e) ∧ (-e ≤ at' b i - at' d i ∧ at' b i - at' d i ≤ e)) := by
  have hle := h.le
  have e1 := h.len
  have e2 := k.len
  have key : ∀ m i, i + m = a.length → runR S (.next 0 [iD (i : Int)]) = some (.out 1 [.one (.bool true)]) ∨ (runR S (.next 0 [iD (i : Int)]) = some (.out 0 []) ∧ ∀ j, i ≤ j → j < a.length → (-e ≤ at' a j - at' c j ∧ at' a j - at' c j ≤ e) ∧ (-e ≤ at' b j - at' d j ∧ at' b j - at' d j ≤ e)) := by
    intro m
    induction m with
    | zero =>
      intro i hi
      right
      refine ⟨runR_exit ?_, fun j h1 h2 => by omega⟩
      rw [hS]
      unfold st7b
      rw [pullD_some (i : Int) (by rfl) (by rfl), if_neg (by omega)]
    | succ m ih =>
      intro i hi
      have ra := h.ra i
      have rb := h.rb i
      have rc := k.ra i
      have rd := k.rb i
      have hst : S (.next 0 [iD (i : Int)]) = if (-e ≤ at' a i - at' c i ∧ at' a i - at' c i ≤ e) ∧ (-e ≤ at' b i - at' d i ∧ at' b i - at' d i ≤ e) then some (.next 0 [iD ((i + 1 : Nat) : Int)]) else some (.out 1 [.one (.bool true)]) := by
        rw [hS]
        unfold st7b
        rw [pullD_some (i : Int) (by rfl) (by rfl), if_pos (by omega), guardP_pos (by omega), readA (by omega), pullD_some (at' a i) (by rfl) (by rfl), guardP_pos (by omega), readA (by omega), pullD_some (at' c i) (by rfl) (by rfl), wrapJ (at' a i - at' c i) (by omega) (by omega), wrapJ (0 - e) (by omega) (by omega), within_eq, pullB, Int.zero_sub]
        by_cases g1 : -e ≤ at' a i - at' c i ∧ at' a i - at' c i ≤ e
        · rw [if_neg (by simp [g1]), guardP_pos (by omega), readA (by omega), pullD_some (at' b i) (by rfl) (by rfl), guardP_pos (by omega), readA (by omega), pullD_some (at' d i) (by rfl) (by rfl), wrapJ (at' b i - at' d i) (by omega) (by omega), within_eq, pullB]
          by_cases g2 : -e ≤ at' b i - at' d i ∧ at' b i - at' d i ≤ e
          · rw [if_neg (by simp [g2]), if_pos ⟨g1, g2⟩, natI (by omega)]
          · rw [if_pos (by simpa using g2), if_neg (fun q => g2 q.2)]
        · rw [if_pos (by simpa using g1), if_neg (fun q => g1 q.1)]
      by_cases g : (-e ≤ at' a i - at' c i ∧ at' a i - at' c i ≤ e) ∧ (-e ≤ at' b i - at' d i ∧ at' b i - at' d i ≤ e)
      · rw [if_pos g] at hst
        rw [runR_next hst]
        rcases ih (i + 1) (by omega) with h3 | ⟨h3, h4⟩
        · exact .inl h3
        · refine .inr ⟨h3, fun j h5 h6 => ?_⟩
          rcases Nat.lt_or_ge i j with h7 | h7
          · exact h4 j h7 h6
          · have : j = i := by omega
            subst this; exact g
      · rw [if_neg g] at hst
        exact .inl (runR_exit hst)
  have hz := key a.length 0 (by omega)
  rw [Int.natCast_zero] at hz
  rcases hz with hz | ⟨hz, hw⟩
  · exact .inl hz
  · exact .inr ⟨hz, fun i hi => hw i (Nat.zero_le i) hi⟩
theorem law7_eq (a b c d : List Int) (e : Int) : m_7 [wnD a b, wnD c d, iD e] = some (.one (.bool true)) := by
  rw [m_7_eq]
  unfold law7_M
  have foldA : [D.agg [D.list a.length (a.map iD), D.list b.length (b.map iD)]] = [wnD a b] := rfl
  have foldC : [D.agg [D.list c.length (c.map iD), D.list d.length (d.map iD)]] = [wnD c d] := rfl
  have foldE : ∀ x : Int, [D.agg [D.list a.length (a.map iD), D.list b.length (b.map iD)], iD x] = [wnD a b, iD x] := fun _ => rfl
  rw [m_8_eq, pullB, if_neg (by decide), foldA, few_eq, pullB]
  by_cases hf : a.length ≤ 17 ∧ b.length ≤ 17
  rotate_left
  · rw [if_pos (by simpa using hf)]
  rw [if_neg (by simpa using hf), foldC, few_eq, pullB]
  by_cases hf2 : c.length ≤ 17 ∧ d.length ≤ 17
  rotate_left
  · rw [if_pos (by simpa using hf2)]
  rw [if_neg (by simpa using hf2)]
  obtain ⟨e1, he1, hw1⟩ := winErr_eq a b
  rw [he1, pullI]
  by_cases g1 : e1 ≠ 0
  · rw [if_pos g1]
  rw [if_neg g1]
  obtain ⟨e2, he2, hw2⟩ := winErr_eq c d
  rw [he2, pullI]
  by_cases g2 : e2 ≠ 0
  · rw [if_pos g2]
  rw [if_neg g2, within_eq, pullB]
  by_cases g3 : 0 ≤ e ∧ e ≤ 19
  rotate_left
  · rw [if_pos (by simpa using g3)]
  rw [if_neg (by simp [g3])]
  by_cases g4 : (c.length : Int) ≠ (a.length : Int)
  · rw [if_pos g4]
  rw [if_neg g4]
  have h := hw1 (by omega)
  have k := hw2 (by omega)
  have hle := h.le
  have hlen := h.len
  have klen := k.len
  have hcl : c.length = a.length := by omega
  have cpA : m_11 [wnD a b] = some (wnD a b) := copyW_eq a b (by omega) (by omega)
  have ew : IntKind.i64.wrap (e + 1) = e + 1 := wrapJ _ (by omega) (by omega)
  have pA : ∀ {β : Type} (kk : Nat × List D × Nat × List D → Option β), pullD (some (wnD a b)) (fun d => (D.ln (D.at d 0), D.lc (D.at d 0), D.ln (D.at d 1), D.lc (D.at d 1))) (fun (x : Nat × List D × Nat × List D) => match x with | (k6, c7, k8, c9) => D.agg [.list k6 c7, .list k8 c9]) kk = kk (a.length, a.map iD, b.length, b.map iD) := fun kk => pullD_some (a.length, a.map iD, b.length, b.map iD) rfl rfl
  rw [cpA, pA]
  dsimp only
  rw [foldE, thrustBound_eq h g3.1 (by omega), pullD_some (bd a a b e a.length, bd b a b e a.length, 0) (by rfl) (by rfl)]
  dsimp only
  rw [pA]
  dsimp only
  rw [foldE, ew, thrustBound_eq h (by omega) (by omega), pullD_some (bd a a b (e + 1) a.length, bd b a b (e + 1) a.length, 0) (by rfl) (by rfl)]
  dsimp only
  rw [pA]
  dsimp only
  rw [foldE, thrustBound_eq h (by omega) (by omega), pullD_some (bd a a b 0 a.length, bd b a b 0 a.length, 0) (by rfl) (by rfl)]
  dsimp only
  rw [pA]
  dsimp only
  rw [foldE, unitOf_eq h (by omega) (unit0_eq h), pullD_some (maxTo (th a a b) (a.length + 1), 0) (by rfl) (by rfl)]
  dsimp only
  rw [pA]
  dsimp only
  rw [foldE, unitOf_eq h (by omega) (unit1_eq h), pullD_some (maxTo (th b a b) (a.length + 1), 0) (by rfl) (by rfl)]
  dsimp only
  have z1 := bd_zero a a b a.length
  have z2 := bd_zero b a b a.length
  have m1 := bd_mono a a b g3.1 (show e ≤ e + 1 by omega) a.length
  have m2 := bd_mono b a b g3.1 (show e ≤ e + 1 by omega) a.length
  have n1 := bd_mono a a b (Int.le_refl 0) g3.1 a.length
  have n2 := bd_mono b a b (Int.le_refl 0) g3.1 a.length
  rw [if_neg (by decide), if_neg (by decide), if_neg (by decide), if_neg (by decide), if_neg (by decide), if_neg (by rw [z1, z2]; simp), if_neg (by omega), if_neg (by omega), if_neg (by omega), if_neg (by omega)]
  rcases go7b h k hcl (e := e) (by omega) (law7_L13_S a.length (a.map iD) b.length (b.map iD) c.length (c.map iD) d.length (d.map iD) e true (decide (a.length ≤ 17 ∧ b.length ≤ 17)) (decide (c.length ≤ 17 ∧ d.length ≤ 17)) e1 e2 (decide (0 ≤ e ∧ e ≤ 19)) a.length (a.map iD) b.length (b.map iD) (bd a a b e a.length) (bd b a b e a.length) 0 a.length (a.map iD) b.length (b.map iD) (bd a a b (e + 1) a.length) (bd b a b (e + 1) a.length) 0 a.length (a.map iD) b.length (b.map iD) (bd a a b 0 a.length) (bd b a b 0 a.length) 0 a.length (a.map iD) b.length (b.map iD) (maxTo (th a a b) (a.length + 1)) 0 a.length (a.map iD) b.length (b.map iD) (maxTo (th b a b) (a.length + 1)) 0) (fun _ => rfl) with q | ⟨q, hw⟩
  · rw [bindL_some q, if_neg (by decide), if_pos rfl, pullD_some true (by rfl) (by rfl)]
  rw [bindL_some q, if_pos rfl, pullD_some () (by rfl) (by rfl), foldC, copyW_eq c d (by omega) (by omega), pullD_some (c.length, c.map iD, d.length, d.map iD) (by rfl) (by rfl)]
  dsimp only
  rw [foldC, thrustsOf_eq k, pullD_some ((tab (c.length + 1) (th c c d)).length, (tab (c.length + 1) (th c c d)).map iD, (tab (c.length + 1) (th d c d)).length, (tab (c.length + 1) (th d c d)).map iD, 0) (by rfl) (by rfl)]
  dsimp only
  simp only [tab_len]
  rw [if_neg (by decide)]
  have b1 := bd_bound h h.ra g3.1 (show e ≤ 20 by omega) (k := a.length) (by omega)
  have b2 := bd_bound h h.rb g3.1 (show e ≤ 20 by omega) (k := a.length) (by omega)
  have w1 : ∀ i, i < a.length → -e ≤ at' a i - at' c i ∧ at' a i - at' c i ≤ e := fun i hi => (hw i hi).1
  have w2 : ∀ i, i < a.length → -e ≤ at' b i - at' d i ∧ at' b i - at' d i ≤ e := fun i hi => (hw i hi).2
  rw [bindL_some (go7a (c.length + 1) (th c c d) (bd a a b e a.length) (by omega) (by omega) (fun i hi => th_in w1 w2 w1 (by omega)) _ fun _ => rfl), if_pos rfl, pullD_some () (by rfl) (by rfl)]
  rw [bindL_some (go7a (c.length + 1) (th d c d) (bd b a b e a.length) (by omega) (by omega) (fun i hi => th_in w1 w2 w2 (by omega)) _ fun _ => rfl), if_pos rfl, pullD_some () (by rfl) (by rfl)]
theorem law7_con (a b c d : List Int) (e : Int) : Con 7 [.agg [lD a, lD b], .agg [lD c, lD d], .one (.int .i64 e)] (.one (.bool true)) := m_7_ok (law7_eq a b c d e)
end
end Go.Proofs.Ytbfefnfmdkgfjaa
/- ForceTolerance: what the runs give, for every argument. -/
namespace Go.Proofs.Ytbfefnfmdkgfjaa.forceTolerance
open Go.ChangeShapes Go.WideShapes Go.ChangeAt Go.RowKit Go.Joins Go.Ev
set_option maxRecDepth 100000 in
/-- WHAT THE RUNS GIVE, FOR EVERY ARGUMENT AND EVERY WORLD THAT HOLDS THE TABLES. -/
theorem contract (H : Type) (enc : TypeId × Value → H) (W : World) (base : Nat) (args : Array Value) (ds gs : List (DataW H)) (before : List MemPlace)
    (hval : ∀ (j : Nat) t v, Try.f7.params[j]? = some t → args[j]? = some v → Value.okWide Try.prog W .any base t v)
    (hW : DataW.Whole enc Try.prog Try.f7.params.toList Rows.forceToleranceSpec.vars false W args.toList ds gs before) (hL : laidMetH Try.prog Rows.forceToleranceRow.laid W) :
    Calls Try.prog 7 args W fun e W' => ∃ v, e = .returned v ∧ Rows.forceToleranceSpec.post enc Try.prog Try.f7 false true false false W args v W' := by
  have hW' := hW
  have hlt := hW.lt
  obtain ⟨p, q, hA0, hV, rfl, hfz, hnd⟩ := hW
  have hA : DataW.TrodAll enc Try.prog W 0 (fun _ => true) true Try.f7.params.toList args.toList ds p := hA0
  rw [Try.params7] at hA hval
  obtain ⟨v0, vs0, d0, ds0, p0, q0, hargs, rfl, rfl, h0, r0⟩ := trodAll_cons hA
  obtain ⟨v1, vs1, d1, ds1, p1, q1, rfl, rfl, rfl, h1, r1⟩ := trodAll_cons r0
  obtain ⟨v2, vs2, d2, ds2, p2, q2, rfl, rfl, rfl, h2, r2⟩ := trodAll_cons r1
  obtain ⟨rfl, rfl, rfl⟩ := trodAll_nil r2
  obtain rfl : args = #[v0, v1, v2] := by cases args; simp_all
  obtain ⟨rfl, rfl⟩ := trodVars_none hV
  obtain ⟨e0, o0, k0⟩ := open_agg (ls := [.sl [.int .i64], .sl [.int .i64]]) 8 (by kernel_rfl) (by kernel_rfl) (by kernel_rfl) (hval 0 24 v0 rfl rfl) h0
  obtain ⟨a, b, rfl⟩ := win_of o0
  obtain ⟨e1, o1, k1⟩ := open_agg (ls := [.sl [.int .i64], .sl [.int .i64]]) 8 (by kernel_rfl) (by kernel_rfl) (by kernel_rfl) (hval 1 24 v1 rfl rfl) h1
  obtain ⟨c, d, rfl⟩ := win_of o1
  obtain ⟨e2, o2, k2⟩ := open_cell (c := .int .i64) 8 (by kernel_rfl) (by kernel_rfl) (by kernel_rfl) (hval 2 3 v2 rfl rfl) h2
  obtain ⟨e, rfl, -⟩ := int_of o2
  have hr : RpL (fun _ => True) W [.agg [lD a, lD b], .agg [lD c, lD d], .one (.int .i64 e)] [v0, v1, v2] := by
    simp only [RpL]
    exact ⟨v0, _, rfl, k0, ⟨v1, _, rfl, k1, ⟨v2, _, rfl, k2, rfl⟩⟩⟩
  refine (law7_con a b c d e W (fun _ => True) _ tabs0 hr).mono fun e W' ⟨v, he, hv, hg⟩ => ?_
  simp only [Rp] at hv
  subst he
  subst hv
  have hlaid : laidOutB Try.prog = true := by kernel_rfl
  exact ⟨_, rfl, post_below (pa := (p0 ++ (p1 ++ (p2 ++ [])))) (pv := []) hW' (fun _ _ _ => trodAll_cons_mk (shut_bool Try.underlying4 _) trodAll_mk0) (fun sp hsp => by
    rw [Try.params7]
    exact trodAll_cons_mk (stays hlaid (by kernel_rfl) (of_decide_eq_true (by kernel_rfl)) h0 hg (fun x hx => hlt x (by simp only [List.mem_append]; left; left; exact hx)) (fun x hx => hsp x (by simp only [List.mem_append]; left; left; exact hx))) (trodAll_cons_mk (stays hlaid (by kernel_rfl) (of_decide_eq_true (by kernel_rfl)) h1 hg (fun x hx => hlt x (by simp only [List.mem_append]; left; right; left; exact hx)) (fun x hx => hsp x (by simp only [List.mem_append]; left; right; left; exact hx))) (trodAll_cons_mk (stays hlaid (by kernel_rfl) (of_decide_eq_true (by kernel_rfl)) h2 hg (fun x hx => hlt x (by simp only [List.mem_append]; left; right; right; left; exact hx)) (fun x hx => hsp x (by simp only [List.mem_append]; left; right; right; left; exact hx))) (trodAll_mk0)))) (fun _ _ => rfl) rfl
    hg (ok_one (by kernel_rfl) rfl (okWide_bool_mk Try.underlying4 _))⟩
end Go.Proofs.Ytbfefnfmdkgfjaa.forceTolerance
/- ForceTolerance: closed facts of the witness. -/
namespace Go.Proofs.Ytbfefnfmdkgfjaa.forceTolerance
open Go.ChangeShapes Go.WideShapes Go.ChangeAt Go.RowKit Go.Joins
/-- THE WITNESS's ARGUMENTS. -/
noncomputable def args0 : Array Value := #[.agg #[.slice none 0 0, .slice none 0 0], .agg #[.slice none 0 0, .slice none 0 0], .int .i64 0]
/-- A WORLD FOR THE WITNESS: the heap that the program's own initialisers leave. -/
noncomputable def start (os : Os) : World := World.doorLaid Try.prog 400 os
theorem laid_met (os : Os) : laidMet Try.prog Rows.forceToleranceRow.laid ((start os).forCall (fun _ _ => 0) ⟨#[], args0, []⟩).memory := ⟨[], rfl, List.nodup_nil, fun _ _ h => by cases h⟩
theorem reads (os : Os) {H : Type} (enc : TypeId × Value → H) : ∃ places, DataW.whole enc Try.prog ((start os).forCall (fun _ _ => 0) ⟨#[], args0, []⟩).memory Try.f7.params.toList Rows.forceToleranceSpec.vars false args0.toList 8 = some ([.agg [.nil, .nil], .agg [.nil, .nil], .lit (.int .i64 0)], [], places) :=
  ⟨[], by kernel_rfl⟩
theorem vB (os : Os) : ((start os).forCall (fun _ _ => 0) ⟨#[], args0, []⟩).variablesB Try.prog = true := by kernel_rfl
theorem rB (os : Os) : (((start os).forCall (fun _ _ => 0) ⟨#[], args0, []⟩).heap.toList.drop Try.prog.globals.size).take ((begin Try.prog (fun _ _ => 0) default).world.heap.size - Try.prog.globals.size) = (begin Try.prog (fun _ _ => 0) default).world.heap.toList.drop Try.prog.globals.size := by kernel_rfl
theorem oB (os : Os) : Input.okWideB Try.prog ((start os).forCall (fun _ _ => 0) ⟨#[], args0, []⟩) 7 ⟨#[], args0, []⟩ = true := by kernel_rfl
theorem hB (os : Os) : (start os).os = os := by kernel_rfl
end Go.Proofs.Ytbfefnfmdkgfjaa.forceTolerance
/- For any two windows and any tolerance, valid or not, the law ForceTolerance of the program answers true, and its arguments read as they did. CONDITIONS: none. -/
namespace Go.Proofs.Ytbfefnfmdkgfjaa.forceTolerance
open Go.ChangeShapes Go.WideShapes Go.ChangeAt Go.RowKit Go.Joins
set_option maxRecDepth 100000 in
theorem lifted (os : Os) (started : os.Started) (H : Type) (enc : TypeId × Value → H) (F : Stop.Interp) :
    ReturnsInHanded {} Try.checked os 7 .any ((OpenSpec.ofChange Rows.forceToleranceSpec).preRow enc Try.prog Try.f7 Rows.forceToleranceRow.domain false Rows.forceToleranceRow.laid) (((OpenSpec.ofChange Rows.forceToleranceSpec).at F).post enc Try.prog Try.f7 false true false false) := by
  obtain ⟨places, hx⟩ := reads os enc
  refine returnsInHanded_of_row (C := Try.checked) (s := OpenSpec.ofChange Rows.forceToleranceSpec) own started (by kernel_rfl) Try.func7
    (witness_row_at (enc := enc) (C := Try.checked) false (start os) args0 (hB os) (vB os) (rB os) (oB os)
      (OpenSpec.preRow_of_cond 8 hx (by kernel_rfl) (fun k hk => by cases hk) (by kernel_rfl) (laid_met os))) ?_
  intro W base args ds gs before hval hW _ _ _ hL _ _
  exact contract H enc W base args ds gs before hval hW hL
theorem said : Rows.ForceToleranceSaid :=
  OpenClaim.holds_of_cond 7 Try.f7 rfl rfl rfl rfl rfl rfl rfl ⟨rfl, rfl, rfl, rfl, rfl⟩ rfl rfl rfl rfl rfl (by kernel_rfl) Try.func7 (by kernel_rfl)
    (of_decide_eq_true (by kernel_rfl)) (by unfold Func.isWrapper; first | (rw [if_pos (by decide +kernel)]; kernel_rfl) | (rw [if_neg (by decide +kernel)]; exact ⟨rfl, rfl⟩))
    (fun os started H enc _ F => by rw [OpenClaim.pre_eq_preRow]; exact lifted os started H enc F)
end Go.Proofs.Ytbfefnfmdkgfjaa.forceTolerance
