/- For any window and any shift, valid or not, the law ForceMirrored of the program answers true, and its arguments read as they did. CONDITIONS: none. -/
import Derived.Test.YtbfefnfmdkgfjaaTD
import Derived.Test.YtbfefnfmdkgfjaaTE
import Derived.Test.YtbfefnfmdkgfjaaTA
set_option linter.unusedVariables false
set_option linter.unusedSimpArgs false
set_option linter.unusedSectionVars false
set_option linter.unnecessarySimpa false
namespace Go.Proofs.Ytbfefnfmdkgfjaa
open Go.Ev Go.RowKit
set_option maxRecDepth 100000
set_option maxHeartbeats 8000000
set_option linter.all false
noncomputable section
def law6_x22_0 : LExit := ⟨some 2, [], (4 :: (19 :: (List.range' 149 40)))⟩
def law6_x22_1 : LExit := ⟨none, [.val 4], (19 :: (List.range' 149 40))⟩
def law6_sp : List LSpec := [⟨6, 22, [law6_x22_0, law6_x22_1]⟩]
def law6_L22_1_E (ka : Nat) (ca : List D) (kb : Nat) (cb : List D) (n : Int) (x0 : Bool) (x1 : Bool) (x2 : Int) (x3 : Nat) (x4 : List D) (x5 : Nat) (x6 : List D) (x7 : Nat) (x8 : List D) (x9 : Nat) (x10 : List D) (x11 : Int) (x12 : Int) (x13 : Nat) (x14 : List D) (x15 : Nat) (x16 : List D) (x17 : Nat) (x18 : List D) (x19 : Nat) (x20 : List D) (x21 : Int) (x22 : Nat) (x23 : List D) (x24 : Nat) (x25 : List D) (x26 : Nat) (x27 : List D) (x28 : Nat) (x29 : List D) (x30 : Int) (x31 : Nat) (x32 : List D) (x33 : Nat) (x34 : List D) (x35 : Nat) (x36 : List D) (x37 : Nat) (x38 : List D) (x39 : Int) (x40 : Nat) (x41 : List D) (x42 : Nat) (x43 : List D) (x44 : Nat) (x45 : List D) (x46 : Nat) (x47 : List D) (x48 : Int) (x49 : Nat) (x50 : List D) (x51 : Nat) (x52 : List D) (x53 : Nat) (x54 : List D) (x55 : Nat) (x56 : List D) (x57 : Int) (x58 : Bool) : List AV × AHeap := ([.agg [.dsl 0, .dsl 1], .pure (.int .i64 n), .ptr 2 0, .pure (.tuple #[]), .any 33, .ptr 7 0, .pure (.int .i64 x11), .ptr 12 0, .pure (.int .i64 x21), .ptr 17 0, .pure (.int .i64 x30), .ptr 22 0, .pure (.int .i64 x39), .ptr 27 0, .pure (.int .i64 x48), .ptr 32 0, .pure (.int .i64 x57), .pure (.int .i64 (ka : Int)), .pure (.int .i64 (1 : Int)), .pure (.int .i64 (0 : Int)), .pure (.tuple #[]), .pure (.tuple #[]), .pure (.tuple #[]), .pure (.tuple #[]), .pure (.tuple #[]), .pure (.tuple #[]), .pure (.bool x0), .pure (.bool !x0), .agg [.dsl 0, .dsl 1], .pure (.bool x1), .pure (.bool !x1), .pure (.bool !x1), .agg [.dsl 0, .dsl 1], .pure (.int .i64 x2), .pure (.bool (x2 != (0 : Int))), .pure (.bool (x2 != (0 : Int))), .tuple [.agg [.dsl 5, .dsl 6], .pure (.int .i64 x11)], .agg [.dsl 0, .dsl 1], .agg [.dsl 3, .dsl 4], .tuple [.agg [.dsl 5, .dsl 6], .pure (.int .i64 x11)], .agg [.dsl 5, .dsl 6], .pure (.int .i64 x11), .pure (.int .i64 x11), .pure (.bool (x11 != (0 : Int))), .pure (.bool (x11 != (0 : Int))), .agg [.dsl 5, .dsl 6], .pure (.int .i64 x12), .pure (.bool (x12 != (0 : Int))), .pure (.bool (x12 != (0 : Int))), .pure (.bool (x12 != (0 : Int))), .ptr 7 0, .dsl 5, .pure (.int .i64 (x7 : Int)), .ptr 2 0, .dsl 0, .pure (.int .i64 (ka : Int)), .pure (.bool ((x7 : Int) != (ka : Int))), .pure (.bool ((x7 : Int) != (ka : Int))), .tuple [.agg [.dsl 10, .dsl 11], .pure (.int .i64 x21)], .agg [.dsl 5, .dsl 6], .agg [.dsl 8, .dsl 9], .tuple [.agg [.dsl 10, .dsl 11], .pure (.int .i64 x21)], .agg [.dsl 10, .dsl 11], .pure (.int .i64 x21), .tuple [.agg [.dsl 15, .dsl 16], .pure (.int .i64 x30)], .agg [.dsl 0, .dsl 1], .agg [.dsl 13, .dsl 14], .tuple [.agg [.dsl 15, .dsl 16], .pure (.int .i64 x30)], .agg [.dsl 15, .dsl 16], .pure (.int .i64 x30), .tuple [.agg [.dsl 20, .dsl 21], .pure (.int .i64 x39)], .agg [.dsl 5, .dsl 6], .agg [.dsl 18, .dsl 19], .tuple [.agg [.dsl 20, .dsl 21], .pure (.int .i64 x39)], .agg [.dsl 20, .dsl 21], .pure (.int .i64 x39), .tuple [.agg [.dsl 25, .dsl 26], .pure (.int .i64 x48)], .agg [.dsl 0, .dsl 1], .agg [.dsl 23, .dsl 24], .tuple [.agg [.dsl 25, .dsl 26], .pure (.int .i64 x48)], .agg [.dsl 25, .dsl 26], .pure (.int .i64 x48), .tuple [.agg [.dsl 30, .dsl 31], .pure (.int .i64 x57)], .agg [.dsl 5, .dsl 6], .agg [.dsl 28, .dsl 29], .tuple [.agg [.dsl 30, .dsl 31], .pure (.int .i64 x57)], .agg [.dsl 30, .dsl 31], .pure (.int .i64 x57), .ptr 2 0, .dsl 0, .pure (.int .i64 (ka : Int)), .pure (.int .i64 x21), .pure (.bool (x21 != (0 : Int))), .pure (.bool (x21 != (0 : Int))), .agg [.dsl 10, .dsl 11], .agg [.dsl 0, .dsl 1], .pure (.bool x58), .pure (.bool !x58), .pure (.bool !x58), .pure (.bool !x58), .pure (.int .i64 x30), .pure (.bool (x30 != (0 : Int))), .pure (.bool (x30 != (0 : Int))), .pure (.bool (x30 != (0 : Int))), .pure (.int .i64 x39), .pure (.bool (x39 != (0 : Int))), .pure (.bool (x39 != (0 : Int))), .pure (.bool (x39 != (0 : Int))), .pure (.int .i64 x48), .pure (.bool (x48 != (0 : Int))), .pure (.bool (x48 != (0 : Int))), .pure (.bool (x48 != (0 : Int))), .pure (.int .i64 x57), .pure (.bool (x57 != (0 : Int))), .pure (.bool (x57 != (0 : Int))), .pure (.int .i64 (1 : Int)), .pure (.bool true), .pure (.int .i64 (0 : Int)), .pure (.int .i64 (1 : Int)), .pure (.int .i64 (1 : Int)), .ptr 17 1, .dsl 16, .pure (.int .i64 (x28 : Int)), .pure (.int .i64 (ka : Int)), .pure (.bool ((x28 : Int) != (ka : Int))), .pure (.bool ((x28 : Int) != (ka : Int))), .pure (.int .i64 (1 : Int)), .ptr 22 1, .dsl 21, .pure (.int .i64 (x37 : Int)), .pure (.int .i64 (ka : Int)), .pure (.bool ((x37 : Int) != (ka : Int))), .pure (.bool ((x37 : Int) != (ka : Int))), .pure (.bool ((x37 : Int) != (ka : Int))), .pure (.int .i64 (1 : Int)), .ptr 27 1, .dsl 26, .pure (.int .i64 (x46 : Int)), .pure (.int .i64 (ka : Int)), .pure (.bool ((x46 : Int) != (ka : Int))), .pure (.bool ((x46 : Int) != (ka : Int))), .pure (.bool ((x46 : Int) != (ka : Int))), .pure (.int .i64 (1 : Int)), .ptr 32 1, .dsl 31, .pure (.int .i64 (x55 : Int)), .pure (.int .i64 (ka : Int)), .pure (.bool ((x55 : Int) != (ka : Int))), .pure (.bool ((x55 : Int) != (ka : Int))), .any 35, .any 36, .any 37, .any 38, .any 39, .any 40, .any 41, .any 42, .any 43, .any 44, .any 45, .any 46, .any 47, .any 48, .any 49, .any 50, .any 51, .any 52, .any 53, .any 54, .any 55, .any 56, .any 57, .any 58, .any 59, .any 60, .any 61, .any 62, .any 63, .any 64, .any 65, .any 66, .any 67, .any 68, .any 69, .any 70, .any 71, .any 72, .any 73, .any 74, .pure (.tuple #[]), .pure (.tuple #[]), .pure (.tuple #[]), .pure (.tuple #[]), .pure (.tuple #[]), .pure (.tuple #[]), .pure (.tuple #[]), .pure (.tuple #[]), .pure (.tuple #[]), .pure (.tuple #[]), .pure (.tuple #[]), .pure (.tuple #[]), .pure (.tuple #[]), .pure (.tuple #[]), .pure (.tuple #[]), .pure (.tuple #[]), .pure (.tuple #[]), .pure (.tuple #[]), .pure (.tuple #[]), .pure (.tuple #[]), .pure (.tuple #[]), .pure (.tuple #[]), .pure (.tuple #[]), .pure (.tuple #[]), .pure (.tuple #[]), .pure (.tuple #[]), .pure (.tuple #[]), .pure (.tuple #[]), .pure (.tuple #[]), .pure (.tuple #[]), .pure (.tuple #[]), .pure (.tuple #[]), .pure (.tuple #[]), .pure (.tuple #[]), .pure (.tuple #[]), .pure (.tuple #[]), .pure (.tuple #[]), .pure (.tuple #[]), .pure (.tuple #[]), .pure (.tuple #[]), .pure (.tuple #[])], [(32, { cells := [.dsl 30, .dsl 31], opn := none, kind := .cells }), (31, { cells := [], opn := none, kind := .deep x55 x56 }), (30, { cells := [], opn := none, kind := .deep x53 x54 }), (29, { cells := [], opn := none, kind := .deep x51 x52 }), (28, { cells := [], opn := none, kind := .deep x49 x50 }), (27, { cells := [.dsl 25, .dsl 26], opn := none, kind := .cells }), (26, { cells := [], opn := none, kind := .deep x46 x47 }), (25, { cells := [], opn := none, kind := .deep x44 x45 }), (24, { cells := [], opn := none, kind := .deep x42 x43 }), (23, { cells := [], opn := none, kind := .deep x40 x41 }), (22, { cells := [.dsl 20, .dsl 21], opn := none, kind := .cells }), (21, { cells := [], opn := none, kind := .deep x37 x38 }), (20, { cells := [], opn := none, kind := .deep x35 x36 }), (19, { cells := [], opn := none, kind := .deep x33 x34 }), (18, { cells := [], opn := none, kind := .deep x31 x32 }), (17, { cells := [.dsl 15, .dsl 16], opn := none, kind := .cells }), (16, { cells := [], opn := none, kind := .deep x28 x29 }), (15, { cells := [], opn := none, kind := .deep x26 x27 }), (14, { cells := [], opn := none, kind := .deep x24 x25 }), (13, { cells := [], opn := none, kind := .deep x22 x23 }), (12, { cells := [.dsl 10, .dsl 11], opn := none, kind := .cells }), (11, { cells := [], opn := none, kind := .deep x19 x20 }), (10, { cells := [], opn := none, kind := .deep x17 x18 }), (9, { cells := [], opn := none, kind := .deep x15 x16 }), (8, { cells := [], opn := none, kind := .deep x13 x14 }), (7, { cells := [.dsl 5, .dsl 6], opn := none, kind := .cells }), (6, { cells := [], opn := none, kind := .deep x9 x10 }), (5, { cells := [], opn := none, kind := .deep x7 x8 }), (4, { cells := [], opn := none, kind := .deep x5 x6 }), (3, { cells := [], opn := none, kind := .deep x3 x4 }), (2, { cells := [.dsl 0, .dsl 1], opn := none, kind := .cells }), (1, { cells := [], opn := none, kind := .deep kb cb }), (0, { cells := [], opn := none, kind := .deep ka ca })])
def law6_L22_1_A : LoopAt := ⟨6, loopAt Try.prog 6 1, 75, 117, 75, noFrame⟩
theorem law6_L22_1_ok : (law6_L22_1_A).OK := ⟨by show 75 ≤ 117; decide, by show 75 ≤ 75; decide, by kernel_rfl, rfl⟩
def law6_L22_1_gs (ka : Nat) (ca : List D) (kb : Nat) (cb : List D) (n : Int) (x0 : Bool) (x1 : Bool) (x2 : Int) (x3 : Nat) (x4 : List D) (x5 : Nat) (x6 : List D) (x7 : Nat) (x8 : List D) (x9 : Nat) (x10 : List D) (x11 : Int) (x12 : Int) (x13 : Nat) (x14 : List D) (x15 : Nat) (x16 : List D) (x17 : Nat) (x18 : List D) (x19 : Nat) (x20 : List D) (x21 : Int) (x22 : Nat) (x23 : List D) (x24 : Nat) (x25 : List D) (x26 : Nat) (x27 : List D) (x28 : Nat) (x29 : List D) (x30 : Int) (x31 : Nat) (x32 : List D) (x33 : Nat) (x34 : List D) (x35 : Nat) (x36 : List D) (x37 : Nat) (x38 : List D) (x39 : Int) (x40 : Nat) (x41 : List D) (x42 : Nat) (x43 : List D) (x44 : Nat) (x45 : List D) (x46 : Nat) (x47 : List D) (x48 : Int) (x49 : Nat) (x50 : List D) (x51 : Nat) (x52 : List D) (x53 : Nat) (x54 : List D) (x55 : Nat) (x56 : List D) (x57 : Int) (x58 : Bool) : Go.Ev.Rd → Option GS
  | .next 0 ds => ghost [.val 19] (4 :: (List.range' 149 40)) (law6_L22_1_E ka ca kb cb n x0 x1 x2 x3 x4 x5 x6 x7 x8 x9 x10 x11 x12 x13 x14 x15 x16 x17 x18 x19 x20 x21 x22 x23 x24 x25 x26 x27 x28 x29 x30 x31 x32 x33 x34 x35 x36 x37 x38 x39 x40 x41 x42 x43 x44 x45 x46 x47 x48 x49 x50 x51 x52 x53 x54 x55 x56 x57 x58).1 (law6_L22_1_E ka ca kb cb n x0 x1 x2 x3 x4 x5 x6 x7 x8 x9 x10 x11 x12 x13 x14 x15 x16 x17 x18 x19 x20 x21 x22 x23 x24 x25 x26 x27 x28 x29 x30 x31 x32 x33 x34 x35 x36 x37 x38 x39 x40 x41 x42 x43 x44 x45 x46 x47 x48 x49 x50 x51 x52 x53 x54 x55 x56 x57 x58).2 75 ds
  | .out 0 ds => ghost law6_x22_0.live law6_x22_0.junk (law6_L22_1_E ka ca kb cb n x0 x1 x2 x3 x4 x5 x6 x7 x8 x9 x10 x11 x12 x13 x14 x15 x16 x17 x18 x19 x20 x21 x22 x23 x24 x25 x26 x27 x28 x29 x30 x31 x32 x33 x34 x35 x36 x37 x38 x39 x40 x41 x42 x43 x44 x45 x46 x47 x48 x49 x50 x51 x52 x53 x54 x55 x56 x57 x58).1 (law6_L22_1_E ka ca kb cb n x0 x1 x2 x3 x4 x5 x6 x7 x8 x9 x10 x11 x12 x13 x14 x15 x16 x17 x18 x19 x20 x21 x22 x23 x24 x25 x26 x27 x28 x29 x30 x31 x32 x33 x34 x35 x36 x37 x38 x39 x40 x41 x42 x43 x44 x45 x46 x47 x48 x49 x50 x51 x52 x53 x54 x55 x56 x57 x58).2 75 ds
  | .out 1 ds => ghost law6_x22_1.live law6_x22_1.junk (law6_L22_1_E ka ca kb cb n x0 x1 x2 x3 x4 x5 x6 x7 x8 x9 x10 x11 x12 x13 x14 x15 x16 x17 x18 x19 x20 x21 x22 x23 x24 x25 x26 x27 x28 x29 x30 x31 x32 x33 x34 x35 x36 x37 x38 x39 x40 x41 x42 x43 x44 x45 x46 x47 x48 x49 x50 x51 x52 x53 x54 x55 x56 x57 x58).1 (law6_L22_1_E ka ca kb cb n x0 x1 x2 x3 x4 x5 x6 x7 x8 x9 x10 x11 x12 x13 x14 x15 x16 x17 x18 x19 x20 x21 x22 x23 x24 x25 x26 x27 x28 x29 x30 x31 x32 x33 x34 x35 x36 x37 x38 x39 x40 x41 x42 x43 x44 x45 x46 x47 x48 x49 x50 x51 x52 x53 x54 x55 x56 x57 x58).2 75 ds
  | _ => none
def law6_L22_1_ex : Nat → Option Nat
  | 0 => law6_x22_0.ex
  | 1 => law6_x22_1.ex
  | _ => none
def law6_L22_1_ax : Go.Ev.Rd → AX
  | .next _ _ => .normal
  | .out j _ => axOf (law6_L22_1_ex j)
def law6_L22_1_S0 (ka : Nat) (ca : List D) (kb : Nat) (cb : List D) (n : Int) (x0 : Bool) (x1 : Bool) (x2 : Int) (x3 : Nat) (x4 : List D) (x5 : Nat) (x6 : List D) (x7 : Nat) (x8 : List D) (x9 : Nat) (x10 : List D) (x11 : Int) (x12 : Int) (x13 : Nat) (x14 : List D) (x15 : Nat) (x16 : List D) (x17 : Nat) (x18 : List D) (x19 : Nat) (x20 : List D) (x21 : Int) (x22 : Nat) (x23 : List D) (x24 : Nat) (x25 : List D) (x26 : Nat) (x27 : List D) (x28 : Nat) (x29 : List D) (x30 : Int) (x31 : Nat) (x32 : List D) (x33 : Nat) (x34 : List D) (x35 : Nat) (x36 : List D) (x37 : Nat) (x38 : List D) (x39 : Int) (x40 : Nat) (x41 : List D) (x42 : Nat) (x43 : List D) (x44 : Nat) (x45 : List D) (x46 : Nat) (x47 : List D) (x48 : Int) (x49 : Nat) (x50 : List D) (x51 : Nat) (x52 : List D) (x53 : Nat) (x54 : List D) (x55 : Nat) (x56 : List D) (x57 : Int) (x58 : Bool) (ds : List D) : Option Go.Ev.Rd := pullD (α := Int) (some (.tup ds)) (fun d => ((D.vi (D.at d 0)))) (fun s19 => .tup [iD s19]) fun s19 => ((if s19 < (ka : Int) then guardP ((0 : Int) ≤ IntKind.i64.wrap (IntKind.i64.wrap ((ka : Int) - (1 : Int)) - s19) ∧ (IntKind.i64.wrap (IntKind.i64.wrap ((ka : Int) - (1 : Int)) - s19)).toNat < x37) (pullD (α := Int) (readD x38 ((IntKind.i64.wrap (IntKind.i64.wrap ((ka : Int) - (1 : Int)) - s19)).toNat * 1) 1 false) (fun d => ((D.vi d))) (fun v0 => iD v0) fun v0 => (guardP ((0 : Int) ≤ s19 ∧ s19.toNat < x28) (pullD (α := Int) (readD x29 (s19.toNat * 1) 1 false) (fun d => ((D.vi d))) (fun v1 => iD v1) fun v1 => ((if v0 ≠ IntKind.i64.wrap ((0 : Int) - v1) then some (.out 1 [.one (.bool false)]) else guardP ((0 : Int) ≤ IntKind.i64.wrap (IntKind.i64.wrap ((ka : Int) - (1 : Int)) - s19) ∧ (IntKind.i64.wrap (IntKind.i64.wrap ((ka : Int) - (1 : Int)) - s19)).toNat < x55) (pullD (α := Int) (readD x56 ((IntKind.i64.wrap (IntKind.i64.wrap ((ka : Int) - (1 : Int)) - s19)).toNat * 1) 1 false) (fun d => ((D.vi d))) (fun v2 => iD v2) fun v2 => (guardP ((0 : Int) ≤ s19 ∧ s19.toNat < x46) (pullD (α := Int) (readD x47 (s19.toNat * 1) 1 false) (fun d => ((D.vi d))) (fun v3 => iD v3) fun v3 => ((if v2 ≠ v3 then some (.out 1 [.one (.bool false)]) else some (.next 0 [iD (IntKind.i64.wrap (s19 + (1 : Int)))]))))))))))) else some (.out 0 [])))
def law6_L22_1_S (ka : Nat) (ca : List D) (kb : Nat) (cb : List D) (n : Int) (x0 : Bool) (x1 : Bool) (x2 : Int) (x3 : Nat) (x4 : List D) (x5 : Nat) (x6 : List D) (x7 : Nat) (x8 : List D) (x9 : Nat) (x10 : List D) (x11 : Int) (x12 : Int) (x13 : Nat) (x14 : List D) (x15 : Nat) (x16 : List D) (x17 : Nat) (x18 : List D) (x19 : Nat) (x20 : List D) (x21 : Int) (x22 : Nat) (x23 : List D) (x24 : Nat) (x25 : List D) (x26 : Nat) (x27 : List D) (x28 : Nat) (x29 : List D) (x30 : Int) (x31 : Nat) (x32 : List D) (x33 : Nat) (x34 : List D) (x35 : Nat) (x36 : List D) (x37 : Nat) (x38 : List D) (x39 : Int) (x40 : Nat) (x41 : List D) (x42 : Nat) (x43 : List D) (x44 : Nat) (x45 : List D) (x46 : Nat) (x47 : List D) (x48 : Int) (x49 : Nat) (x50 : List D) (x51 : Nat) (x52 : List D) (x53 : Nat) (x54 : List D) (x55 : Nat) (x56 : List D) (x57 : Int) (x58 : Bool) : Go.Ev.Rd → Option Go.Ev.Rd
  | .next 0 ds => law6_L22_1_S0 ka ca kb cb n x0 x1 x2 x3 x4 x5 x6 x7 x8 x9 x10 x11 x12 x13 x14 x15 x16 x17 x18 x19 x20 x21 x22 x23 x24 x25 x26 x27 x28 x29 x30 x31 x32 x33 x34 x35 x36 x37 x38 x39 x40 x41 x42 x43 x44 x45 x46 x47 x48 x49 x50 x51 x52 x53 x54 x55 x56 x57 x58 ds
  | _ => none
theorem law6_L22_1_S_ok (ka : Nat) (ca : List D) (kb : Nat) (cb : List D) (n : Int) (x0 : Bool) (x1 : Bool) (x2 : Int) (x3 : Nat) (x4 : List D) (x5 : Nat) (x6 : List D) (x7 : Nat) (x8 : List D) (x9 : Nat) (x10 : List D) (x11 : Int) (x12 : Int) (x13 : Nat) (x14 : List D) (x15 : Nat) (x16 : List D) (x17 : Nat) (x18 : List D) (x19 : Nat) (x20 : List D) (x21 : Int) (x22 : Nat) (x23 : List D) (x24 : Nat) (x25 : List D) (x26 : Nat) (x27 : List D) (x28 : Nat) (x29 : List D) (x30 : Int) (x31 : Nat) (x32 : List D) (x33 : Nat) (x34 : List D) (x35 : Nat) (x36 : List D) (x37 : Nat) (x38 : List D) (x39 : Int) (x40 : Nat) (x41 : List D) (x42 : Nat) (x43 : List D) (x44 : Nat) (x45 : List D) (x46 : Nat) (x47 : List D) (x48 : Int) (x49 : Nat) (x50 : List D) (x51 : Nat) (x52 : List D) (x53 : Nat) (x54 : List D) (x55 : Nat) (x56 : List D) (x57 : Int) (x58 : Bool) : ∀ s_ t_, law6_L22_1_S ka ca kb cb n x0 x1 x2 x3 x4 x5 x6 x7 x8 x9 x10 x11 x12 x13 x14 x15 x16 x17 x18 x19 x20 x21 x22 x23 x24 x25 x26 x27 x28 x29 x30 x31 x32 x33 x34 x35 x36 x37 x38 x39 x40 x41 x42 x43 x44 x45 x46 x47 x48 x49 x50 x51 x52 x53 x54 x55 x56 x57 x58 s_ = some t_ → Step (ctx [6] law6_sp) Tabs law6_L22_1_A (stateOf (law6_L22_1_gs ka ca kb cb n x0 x1 x2 x3 x4 x5 x6 x7 x8 x9 x10 x11 x12 x13 x14 x15 x16 x17 x18 x19 x20 x21 x22 x23 x24 x25 x26 x27 x28 x29 x30 x31 x32 x33 x34 x35 x36 x37 x38 x39 x40 x41 x42 x43 x44 x45 x46 x47 x48 x49 x50 x51 x52 x53 x54 x55 x56 x57 x58 s_)) (stateOf (law6_L22_1_gs ka ca kb cb n x0 x1 x2 x3 x4 x5 x6 x7 x8 x9 x10 x11 x12 x13 x14 x15 x16 x17 x18 x19 x20 x21 x22 x23 x24 x25 x26 x27 x28 x29 x30 x31 x32 x33 x34 x35 x36 x37 x38 x39 x40 x41 x42 x43 x44 x45 x46 x47 x48 x49 x50 x51 x52 x53 x54 x55 x56 x57 x58 t_)) (law6_L22_1_ax t_) ∧ EndOK law6_L22_1_A.nx law6_L22_1_A.low (law6_L22_1_gs ka ca kb cb n x0 x1 x2 x3 x4 x5 x6 x7 x8 x9 x10 x11 x12 x13 x14 x15 x16 x17 x18 x19 x20 x21 x22 x23 x24 x25 x26 x27 x28 x29 x30 x31 x32 x33 x34 x35 x36 x37 x38 x39 x40 x41 x42 x43 x44 x45 x46 x47 x48 x49 x50 x51 x52 x53 x54 x55 x56 x57 x58) t_
  | .next 0 ds, t_, h => by
    have h_ : law6_L22_1_S0 ka ca kb cb n x0 x1 x2 x3 x4 x5 x6 x7 x8 x9 x10 x11 x12 x13 x14 x15 x16 x17 x18 x19 x20 x21 x22 x23 x24 x25 x26 x27 x28 x29 x30 x31 x32 x33 x34 x35 x36 x37 x38 x39 x40 x41 x42 x43 x44 x45 x46 x47 x48 x49 x50 x51 x52 x53 x54 x55 x56 x57 x58 ds = some t_ := h
    clear h
    unfold law6_L22_1_S0 at h_
    obtain ⟨s19, e0, h0⟩ := pullD_elim h_
    clear h_
    obtain rfl := tup_inj e0
    by_cases b1_ : s19 < (ka : Int)
    · have h2_ := (if_pos b1_).symm.trans h0
      obtain ⟨f3_, h4_⟩ := guardP_elim h2_
      obtain ⟨v0, f5_, h6_⟩ := pullD_elim h4_
      replace f5_ := readD_elim f5_
      obtain ⟨f7_, h8_⟩ := guardP_elim h6_
      obtain ⟨v1, f9_, h10_⟩ := pullD_elim h8_
      replace f9_ := readD_elim f9_
      by_cases b11_ : v0 ≠ IntKind.i64.wrap ((0 : Int) - v1)
      · have h12_ := (if_pos b11_).symm.trans h10_
        obtain rfl := Option.some.inj h12_
        exact ⟨step_pc 3000 (bT 19 []) [iD v0, iD v1] [c_d b1_, c_f f3_, c_f f5_, c_f f7_, c_f f9_, c_b b11_, c_b b11_, c_b b11_, c_b b11_, c_b b11_, c_b b11_, c_b b11_, c_b b11_, c_b b11_, c_b b11_, c_b b11_, c_b b11_, c_b b11_, c_b b11_, c_b b11_, c_b b11_, c_b b11_, c_T] [] _ rfl (by kernel_rfl) (by kernel_rfl) (by kernel_rfl) (by kernel_rfl) (by kernel_rfl) (by kernel_rfl), by kernel_rfl, by kernel_rfl⟩
      have h12_ := (if_neg b11_).symm.trans h10_
      have b13_ : v0 = IntKind.i64.wrap ((0 : Int) - v1) := by first | exact b11_ | simpa using b11_
      obtain ⟨f14_, h15_⟩ := guardP_elim h12_
      obtain ⟨v2, f16_, h17_⟩ := pullD_elim h15_
      replace f16_ := readD_elim f16_
      obtain ⟨f18_, h19_⟩ := guardP_elim h17_
      obtain ⟨v3, f20_, h21_⟩ := pullD_elim h19_
      replace f20_ := readD_elim f20_
      by_cases b22_ : v2 ≠ v3
      · have h23_ := (if_pos b22_).symm.trans h21_
        obtain rfl := Option.some.inj h23_
        exact ⟨step_pc 3000 (bT 1 (bF 17 (bT 1 []))) [iD v0, iD v1, iD v2, iD v3] [c_d b1_, c_f f3_, c_f f5_, c_f f7_, c_f f9_, c_bn b13_, c_bn b13_, c_bn b13_, c_bn b13_, c_bn b13_, c_bn b13_, c_bn b13_, c_bn b13_, c_f f14_, c_bn b13_, c_f f16_, c_bn b13_, c_bn b13_, c_bn b13_, c_bn b13_, c_bn b13_, c_f f18_, c_bn b13_, c_f f20_, c_bn b13_, c_bn b13_, c_b b22_] [] _ rfl (by kernel_rfl) (by kernel_rfl) (by kernel_rfl) (by kernel_rfl) (by kernel_rfl) (by kernel_rfl), by kernel_rfl, by kernel_rfl⟩
      have h23_ := (if_neg b22_).symm.trans h21_
      have b24_ : v2 = v3 := by first | exact b22_ | simpa using b22_
      obtain rfl := Option.some.inj h23_
      exact ⟨step_pc 3000 (bT 1 (bF 18 [])) [iD v0, iD v1, iD v2, iD v3] [c_d b1_, c_f f3_, c_f f5_, c_f f7_, c_f f9_, c_bn b13_, c_bn b13_, c_bn b13_, c_bn b13_, c_bn b13_, c_bn b13_, c_bn b13_, c_bn b13_, c_f f14_, c_bn b13_, c_f f16_, c_bn b13_, c_bn b13_, c_bn b13_, c_bn b13_, c_bn b13_, c_f f18_, c_bn b13_, c_f f20_, c_bn b13_, c_bn b13_, c_bn b24_] [] _ rfl (by kernel_rfl) (by kernel_rfl) (by kernel_rfl) (by kernel_rfl) (by kernel_rfl) (by kernel_rfl), trivial⟩
    have h2_ := (if_neg b1_).symm.trans h0
    obtain rfl := Option.some.inj h2_
    exact ⟨step_pc 3000 (bF 1 []) [] [c_n b1_] [] _ rfl (by kernel_rfl) (by kernel_rfl) (by kernel_rfl) (by kernel_rfl) (by kernel_rfl) (by kernel_rfl), by kernel_rfl, by kernel_rfl⟩
  | .next (_ + 1) _, _, h => by cases h
  | .out _ _, _, h => by cases h
theorem law6_L22_1_go (ka : Nat) (ca : List D) (kb : Nat) (cb : List D) (n : Int) (x0 : Bool) (x1 : Bool) (x2 : Int) (x3 : Nat) (x4 : List D) (x5 : Nat) (x6 : List D) (x7 : Nat) (x8 : List D) (x9 : Nat) (x10 : List D) (x11 : Int) (x12 : Int) (x13 : Nat) (x14 : List D) (x15 : Nat) (x16 : List D) (x17 : Nat) (x18 : List D) (x19 : Nat) (x20 : List D) (x21 : Int) (x22 : Nat) (x23 : List D) (x24 : Nat) (x25 : List D) (x26 : Nat) (x27 : List D) (x28 : Nat) (x29 : List D) (x30 : Int) (x31 : Nat) (x32 : List D) (x33 : Nat) (x34 : List D) (x35 : Nat) (x36 : List D) (x37 : Nat) (x38 : List D) (x39 : Int) (x40 : Nat) (x41 : List D) (x42 : Nat) (x43 : List D) (x44 : Nat) (x45 : List D) (x46 : Nat) (x47 : List D) (x48 : Int) (x49 : Nat) (x50 : List D) (x51 : Nat) (x52 : List D) (x53 : Nat) (x54 : List D) (x55 : Nat) (x56 : List D) (x57 : Int) (x58 : Bool) {q : Nat} {ds : List D} {j : Nat} {es : List D} (h : runR (law6_L22_1_S ka ca kb cb n x0 x1 x2 x3 x4 x5 x6 x7 x8 x9 x10 x11 x12 x13 x14 x15 x16 x17 x18 x19 x20 x21 x22 x23 x24 x25 x26 x27 x28 x29 x30 x31 x32 x33 x34 x35 x36 x37 x38 x39 x40 x41 x42 x43 x44 x45 x46 x47 x48 x49 x50 x51 x52 x53 x54 x55 x56 x57 x58) (.next q ds) = some (.out j es)) : Runs (ctx [6] law6_sp) Tabs law6_L22_1_A (stateOf (law6_L22_1_gs ka ca kb cb n x0 x1 x2 x3 x4 x5 x6 x7 x8 x9 x10 x11 x12 x13 x14 x15 x16 x17 x18 x19 x20 x21 x22 x23 x24 x25 x26 x27 x28 x29 x30 x31 x32 x33 x34 x35 x36 x37 x38 x39 x40 x41 x42 x43 x44 x45 x46 x47 x48 x49 x50 x51 x52 x53 x54 x55 x56 x57 x58 (.next q ds))) (stateOf (law6_L22_1_gs ka ca kb cb n x0 x1 x2 x3 x4 x5 x6 x7 x8 x9 x10 x11 x12 x13 x14 x15 x16 x17 x18 x19 x20 x21 x22 x23 x24 x25 x26 x27 x28 x29 x30 x31 x32 x33 x34 x35 x36 x37 x38 x39 x40 x41 x42 x43 x44 x45 x46 x47 x48 x49 x50 x51 x52 x53 x54 x55 x56 x57 x58 (.out j es))) (law6_L22_1_ax (.out j es)) ∧ (nxtOf (law6_L22_1_gs ka ca kb cb n x0 x1 x2 x3 x4 x5 x6 x7 x8 x9 x10 x11 x12 x13 x14 x15 x16 x17 x18 x19 x20 x21 x22 x23 x24 x25 x26 x27 x28 x29 x30 x31 x32 x33 x34 x35 x36 x37 x38 x39 x40 x41 x42 x43 x44 x45 x46 x47 x48 x49 x50 x51 x52 x53 x54 x55 x56 x57 x58 (.out j es)), lowGS (law6_L22_1_gs ka ca kb cb n x0 x1 x2 x3 x4 x5 x6 x7 x8 x9 x10 x11 x12 x13 x14 x15 x16 x17 x18 x19 x20 x21 x22 x23 x24 x25 x26 x27 x28 x29 x30 x31 x32 x33 x34 x35 x36 x37 x38 x39 x40 x41 x42 x43 x44 x45 x46 x47 x48 x49 x50 x51 x52 x53 x54 x55 x56 x57 x58 (.out j es))) = (law6_L22_1_A.nx, law6_L22_1_A.low) :=
  runs_of' (good true _ _) law6_L22_1_ok (ax := law6_L22_1_ax) (fun _ _ => rfl) (fun _ _ => axOf_end _) (law6_L22_1_S_ok ka ca kb cb n x0 x1 x2 x3 x4 x5 x6 x7 x8 x9 x10 x11 x12 x13 x14 x15 x16 x17 x18 x19 x20 x21 x22 x23 x24 x25 x26 x27 x28 x29 x30 x31 x32 x33 x34 x35 x36 x37 x38 x39 x40 x41 x42 x43 x44 x45 x46 x47 x48 x49 x50 x51 x52 x53 x54 x55 x56 x57 x58) h
theorem law6_L22_1_in0 (ka : Nat) (ca : List D) (kb : Nat) (cb : List D) (n : Int) (x0 : Bool) (x1 : Bool) (x2 : Int) (x3 : Nat) (x4 : List D) (x5 : Nat) (x6 : List D) (x7 : Nat) (x8 : List D) (x9 : Nat) (x10 : List D) (x11 : Int) (x12 : Int) (x13 : Nat) (x14 : List D) (x15 : Nat) (x16 : List D) (x17 : Nat) (x18 : List D) (x19 : Nat) (x20 : List D) (x21 : Int) (x22 : Nat) (x23 : List D) (x24 : Nat) (x25 : List D) (x26 : Nat) (x27 : List D) (x28 : Nat) (x29 : List D) (x30 : Int) (x31 : Nat) (x32 : List D) (x33 : Nat) (x34 : List D) (x35 : Nat) (x36 : List D) (x37 : Nat) (x38 : List D) (x39 : Int) (x40 : Nat) (x41 : List D) (x42 : Nat) (x43 : List D) (x44 : Nat) (x45 : List D) (x46 : Nat) (x47 : List D) (x48 : Int) (x49 : Nat) (x50 : List D) (x51 : Nat) (x52 : List D) (x53 : Nat) (x54 : List D) (x55 : Nat) (x56 : List D) (x57 : Int) (x58 : Bool) {es : List D} (h : runR (law6_L22_1_S ka ca kb cb n x0 x1 x2 x3 x4 x5 x6 x7 x8 x9 x10 x11 x12 x13 x14 x15 x16 x17 x18 x19 x20 x21 x22 x23 x24 x25 x26 x27 x28 x29 x30 x31 x32 x33 x34 x35 x36 x37 x38 x39 x40 x41 x42 x43 x44 x45 x46 x47 x48 x49 x50 x51 x52 x53 x54 x55 x56 x57 x58) (.next 0 [iD ((0 : Int))]) = some (.out 0 es)) : LoopC (loopAt Try.prog 6 1) (law6_L22_1_E ka ca kb cb n x0 x1 x2 x3 x4 x5 x6 x7 x8 x9 x10 x11 x12 x13 x14 x15 x16 x17 x18 x19 x20 x21 x22 x23 x24 x25 x26 x27 x28 x29 x30 x31 x32 x33 x34 x35 x36 x37 x38 x39 x40 x41 x42 x43 x44 x45 x46 x47 x48 x49 x50 x51 x52 x53 x54 x55 x56 x57 x58) 75 noFrame law6_x22_0 es :=
  have r := law6_L22_1_go ka ca kb cb n x0 x1 x2 x3 x4 x5 x6 x7 x8 x9 x10 x11 x12 x13 x14 x15 x16 x17 x18 x19 x20 x21 x22 x23 x24 x25 x26 x27 x28 x29 x30 x31 x32 x33 x34 x35 x36 x37 x38 x39 x40 x41 x42 x43 x44 x45 x46 x47 x48 x49 x50 x51 x52 x53 x54 x55 x56 x57 x58 h
  loopin_as rfl (loop_in (l := law6_L22_1_A) (E := (law6_L22_1_E ka ca kb cb n x0 x1 x2 x3 x4 x5 x6 x7 x8 x9 x10 x11 x12 x13 x14 x15 x16 x17 x18 x19 x20 x21 x22 x23 x24 x25 x26 x27 x28 x29 x30 x31 x32 x33 x34 x35 x36 x37 x38 x39 x40 x41 x42 x43 x44 x45 x46 x47 x48 x49 x50 x51 x52 x53 x54 x55 x56 x57 x58)) (S := stateOf (law6_L22_1_gs ka ca kb cb n x0 x1 x2 x3 x4 x5 x6 x7 x8 x9 x10 x11 x12 x13 x14 x15 x16 x17 x18 x19 x20 x21 x22 x23 x24 x25 x26 x27 x28 x29 x30 x31 x32 x33 x34 x35 x36 x37 x38 x39 x40 x41 x42 x43 x44 x45 x46 x47 x48 x49 x50 x51 x52 x53 x54 x55 x56 x57 x58 (.next 0 [iD ((0 : Int))]))) (ns := nsOf (law6_L22_1_gs ka ca kb cb n x0 x1 x2 x3 x4 x5 x6 x7 x8 x9 x10 x11 x12 x13 x14 x15 x16 x17 x18 x19 x20 x21 x22 x23 x24 x25 x26 x27 x28 x29 x30 x31 x32 x33 x34 x35 x36 x37 x38 x39 x40 x41 x42 x43 x44 x45 x46 x47 x48 x49 x50 x51 x52 x53 x54 x55 x56 x57 x58 (.next 0 [iD ((0 : Int))]))) law6_L22_1_ok r.1 r.2 (by kernel_rfl) (by kernel_rfl) (by kernel_rfl) (by kernel_rfl))
theorem law6_L22_1_in1 (ka : Nat) (ca : List D) (kb : Nat) (cb : List D) (n : Int) (x0 : Bool) (x1 : Bool) (x2 : Int) (x3 : Nat) (x4 : List D) (x5 : Nat) (x6 : List D) (x7 : Nat) (x8 : List D) (x9 : Nat) (x10 : List D) (x11 : Int) (x12 : Int) (x13 : Nat) (x14 : List D) (x15 : Nat) (x16 : List D) (x17 : Nat) (x18 : List D) (x19 : Nat) (x20 : List D) (x21 : Int) (x22 : Nat) (x23 : List D) (x24 : Nat) (x25 : List D) (x26 : Nat) (x27 : List D) (x28 : Nat) (x29 : List D) (x30 : Int) (x31 : Nat) (x32 : List D) (x33 : Nat) (x34 : List D) (x35 : Nat) (x36 : List D) (x37 : Nat) (x38 : List D) (x39 : Int) (x40 : Nat) (x41 : List D) (x42 : Nat) (x43 : List D) (x44 : Nat) (x45 : List D) (x46 : Nat) (x47 : List D) (x48 : Int) (x49 : Nat) (x50 : List D) (x51 : Nat) (x52 : List D) (x53 : Nat) (x54 : List D) (x55 : Nat) (x56 : List D) (x57 : Int) (x58 : Bool) {es : List D} (h : runR (law6_L22_1_S ka ca kb cb n x0 x1 x2 x3 x4 x5 x6 x7 x8 x9 x10 x11 x12 x13 x14 x15 x16 x17 x18 x19 x20 x21 x22 x23 x24 x25 x26 x27 x28 x29 x30 x31 x32 x33 x34 x35 x36 x37 x38 x39 x40 x41 x42 x43 x44 x45 x46 x47 x48 x49 x50 x51 x52 x53 x54 x55 x56 x57 x58) (.next 0 [iD ((0 : Int))]) = some (.out 1 es)) : LoopC (loopAt Try.prog 6 1) (law6_L22_1_E ka ca kb cb n x0 x1 x2 x3 x4 x5 x6 x7 x8 x9 x10 x11 x12 x13 x14 x15 x16 x17 x18 x19 x20 x21 x22 x23 x24 x25 x26 x27 x28 x29 x30 x31 x32 x33 x34 x35 x36 x37 x38 x39 x40 x41 x42 x43 x44 x45 x46 x47 x48 x49 x50 x51 x52 x53 x54 x55 x56 x57 x58) 75 noFrame law6_x22_1 es :=
  have r := law6_L22_1_go ka ca kb cb n x0 x1 x2 x3 x4 x5 x6 x7 x8 x9 x10 x11 x12 x13 x14 x15 x16 x17 x18 x19 x20 x21 x22 x23 x24 x25 x26 x27 x28 x29 x30 x31 x32 x33 x34 x35 x36 x37 x38 x39 x40 x41 x42 x43 x44 x45 x46 x47 x48 x49 x50 x51 x52 x53 x54 x55 x56 x57 x58 h
  loopin_as rfl (loop_in (l := law6_L22_1_A) (E := (law6_L22_1_E ka ca kb cb n x0 x1 x2 x3 x4 x5 x6 x7 x8 x9 x10 x11 x12 x13 x14 x15 x16 x17 x18 x19 x20 x21 x22 x23 x24 x25 x26 x27 x28 x29 x30 x31 x32 x33 x34 x35 x36 x37 x38 x39 x40 x41 x42 x43 x44 x45 x46 x47 x48 x49 x50 x51 x52 x53 x54 x55 x56 x57 x58)) (S := stateOf (law6_L22_1_gs ka ca kb cb n x0 x1 x2 x3 x4 x5 x6 x7 x8 x9 x10 x11 x12 x13 x14 x15 x16 x17 x18 x19 x20 x21 x22 x23 x24 x25 x26 x27 x28 x29 x30 x31 x32 x33 x34 x35 x36 x37 x38 x39 x40 x41 x42 x43 x44 x45 x46 x47 x48 x49 x50 x51 x52 x53 x54 x55 x56 x57 x58 (.next 0 [iD ((0 : Int))]))) (ns := nsOf (law6_L22_1_gs ka ca kb cb n x0 x1 x2 x3 x4 x5 x6 x7 x8 x9 x10 x11 x12 x13 x14 x15 x16 x17 x18 x19 x20 x21 x22 x23 x24 x25 x26 x27 x28 x29 x30 x31 x32 x33 x34 x35 x36 x37 x38 x39 x40 x41 x42 x43 x44 x45 x46 x47 x48 x49 x50 x51 x52 x53 x54 x55 x56 x57 x58 (.next 0 [iD ((0 : Int))]))) law6_L22_1_ok r.1 r.2 (by kernel_rfl) (by kernel_rfl) (by kernel_rfl) (by kernel_rfl))
def law6_L22_E (ka : Nat) (ca : List D) (kb : Nat) (cb : List D) (n : Int) (x0 : Bool) (x1 : Bool) (x2 : Int) (x3 : Nat) (x4 : List D) (x5 : Nat) (x6 : List D) (x7 : Nat) (x8 : List D) (x9 : Nat) (x10 : List D) (x11 : Int) (x12 : Int) (x13 : Nat) (x14 : List D) (x15 : Nat) (x16 : List D) (x17 : Nat) (x18 : List D) (x19 : Nat) (x20 : List D) (x21 : Int) (x22 : Nat) (x23 : List D) (x24 : Nat) (x25 : List D) (x26 : Nat) (x27 : List D) (x28 : Nat) (x29 : List D) (x30 : Int) (x31 : Nat) (x32 : List D) (x33 : Nat) (x34 : List D) (x35 : Nat) (x36 : List D) (x37 : Nat) (x38 : List D) (x39 : Int) (x40 : Nat) (x41 : List D) (x42 : Nat) (x43 : List D) (x44 : Nat) (x45 : List D) (x46 : Nat) (x47 : List D) (x48 : Int) (x49 : Nat) (x50 : List D) (x51 : Nat) (x52 : List D) (x53 : Nat) (x54 : List D) (x55 : Nat) (x56 : List D) (x57 : Int) (x58 : Bool) : List AV × AHeap := ([.agg [.dsl 0, .dsl 1], .pure (.int .i64 n), .ptr 2 0, .pure (.tuple #[]), .pure (.bool false), .ptr 7 0, .pure (.int .i64 x11), .ptr 12 0, .pure (.int .i64 x21), .ptr 17 0, .pure (.int .i64 x30), .ptr 22 0, .pure (.int .i64 x39), .ptr 27 0, .pure (.int .i64 x48), .ptr 32 0, .pure (.int .i64 x57), .pure (.int .i64 (ka : Int)), .pure (.int .i64 (0 : Int)), .pure (.int .i64 (0 : Int)), .pure (.tuple #[]), .pure (.tuple #[]), .pure (.tuple #[]), .pure (.tuple #[]), .pure (.tuple #[]), .pure (.tuple #[]), .pure (.bool x0), .pure (.bool !x0), .agg [.dsl 0, .dsl 1], .pure (.bool x1), .pure (.bool !x1), .pure (.bool !x1), .agg [.dsl 0, .dsl 1], .pure (.int .i64 x2), .pure (.bool (x2 != (0 : Int))), .pure (.bool (x2 != (0 : Int))), .tuple [.agg [.dsl 5, .dsl 6], .pure (.int .i64 x11)], .agg [.dsl 0, .dsl 1], .agg [.dsl 3, .dsl 4], .tuple [.agg [.dsl 5, .dsl 6], .pure (.int .i64 x11)], .agg [.dsl 5, .dsl 6], .pure (.int .i64 x11), .pure (.int .i64 x11), .pure (.bool (x11 != (0 : Int))), .pure (.bool (x11 != (0 : Int))), .agg [.dsl 5, .dsl 6], .pure (.int .i64 x12), .pure (.bool (x12 != (0 : Int))), .pure (.bool (x12 != (0 : Int))), .pure (.bool (x12 != (0 : Int))), .ptr 7 0, .dsl 5, .pure (.int .i64 (x7 : Int)), .ptr 2 0, .dsl 0, .pure (.int .i64 (ka : Int)), .pure (.bool ((x7 : Int) != (ka : Int))), .pure (.bool ((x7 : Int) != (ka : Int))), .tuple [.agg [.dsl 10, .dsl 11], .pure (.int .i64 x21)], .agg [.dsl 5, .dsl 6], .agg [.dsl 8, .dsl 9], .tuple [.agg [.dsl 10, .dsl 11], .pure (.int .i64 x21)], .agg [.dsl 10, .dsl 11], .pure (.int .i64 x21), .tuple [.agg [.dsl 15, .dsl 16], .pure (.int .i64 x30)], .agg [.dsl 0, .dsl 1], .agg [.dsl 13, .dsl 14], .tuple [.agg [.dsl 15, .dsl 16], .pure (.int .i64 x30)], .agg [.dsl 15, .dsl 16], .pure (.int .i64 x30), .tuple [.agg [.dsl 20, .dsl 21], .pure (.int .i64 x39)], .agg [.dsl 5, .dsl 6], .agg [.dsl 18, .dsl 19], .tuple [.agg [.dsl 20, .dsl 21], .pure (.int .i64 x39)], .agg [.dsl 20, .dsl 21], .pure (.int .i64 x39), .tuple [.agg [.dsl 25, .dsl 26], .pure (.int .i64 x48)], .agg [.dsl 0, .dsl 1], .agg [.dsl 23, .dsl 24], .tuple [.agg [.dsl 25, .dsl 26], .pure (.int .i64 x48)], .agg [.dsl 25, .dsl 26], .pure (.int .i64 x48), .tuple [.agg [.dsl 30, .dsl 31], .pure (.int .i64 x57)], .agg [.dsl 5, .dsl 6], .agg [.dsl 28, .dsl 29], .tuple [.agg [.dsl 30, .dsl 31], .pure (.int .i64 x57)], .agg [.dsl 30, .dsl 31], .pure (.int .i64 x57), .ptr 2 0, .dsl 0, .pure (.int .i64 (ka : Int)), .pure (.int .i64 x21), .pure (.bool (x21 != (0 : Int))), .pure (.bool (x21 != (0 : Int))), .agg [.dsl 10, .dsl 11], .agg [.dsl 0, .dsl 1], .pure (.bool x58), .pure (.bool !x58), .pure (.bool !x58), .pure (.bool !x58), .pure (.int .i64 x30), .pure (.bool (x30 != (0 : Int))), .pure (.bool (x30 != (0 : Int))), .pure (.bool (x30 != (0 : Int))), .pure (.int .i64 x39), .pure (.bool (x39 != (0 : Int))), .pure (.bool (x39 != (0 : Int))), .pure (.bool (x39 != (0 : Int))), .pure (.int .i64 x48), .pure (.bool (x48 != (0 : Int))), .pure (.bool (x48 != (0 : Int))), .pure (.bool (x48 != (0 : Int))), .pure (.int .i64 x57), .pure (.bool (x57 != (0 : Int))), .pure (.bool (x57 != (0 : Int))), .pure (.int .i64 (0 : Int)), .pure (.bool true), .pure (.tuple #[]), .pure (.tuple #[]), .pure (.int .i64 (0 : Int)), .ptr 17 0, .dsl 15, .pure (.int .i64 (x26 : Int)), .pure (.int .i64 (ka : Int)), .pure (.bool ((x26 : Int) != (ka : Int))), .pure (.bool ((x26 : Int) != (ka : Int))), .pure (.int .i64 (0 : Int)), .ptr 22 0, .dsl 20, .pure (.int .i64 (x35 : Int)), .pure (.int .i64 (ka : Int)), .pure (.bool ((x35 : Int) != (ka : Int))), .pure (.bool ((x35 : Int) != (ka : Int))), .pure (.bool ((x35 : Int) != (ka : Int))), .pure (.int .i64 (0 : Int)), .ptr 27 0, .dsl 25, .pure (.int .i64 (x44 : Int)), .pure (.int .i64 (ka : Int)), .pure (.bool ((x44 : Int) != (ka : Int))), .pure (.bool ((x44 : Int) != (ka : Int))), .pure (.bool ((x44 : Int) != (ka : Int))), .pure (.int .i64 (0 : Int)), .ptr 32 0, .dsl 30, .pure (.int .i64 (x53 : Int)), .pure (.int .i64 (ka : Int)), .pure (.bool ((x53 : Int) != (ka : Int))), .pure (.bool ((x53 : Int) != (ka : Int))), .pure (.tuple #[]), .pure (.tuple #[]), .pure (.tuple #[]), .pure (.tuple #[]), .pure (.tuple #[]), .pure (.tuple #[]), .pure (.tuple #[]), .pure (.tuple #[]), .pure (.tuple #[]), .pure (.tuple #[]), .pure (.tuple #[]), .pure (.tuple #[]), .pure (.tuple #[]), .pure (.tuple #[]), .pure (.tuple #[]), .pure (.tuple #[]), .pure (.tuple #[]), .pure (.tuple #[]), .pure (.tuple #[]), .pure (.tuple #[]), .pure (.tuple #[]), .pure (.tuple #[]), .pure (.tuple #[]), .pure (.tuple #[]), .pure (.tuple #[]), .pure (.tuple #[]), .pure (.tuple #[]), .pure (.tuple #[]), .pure (.tuple #[]), .pure (.tuple #[]), .pure (.tuple #[]), .pure (.tuple #[]), .pure (.tuple #[]), .pure (.tuple #[]), .pure (.tuple #[]), .pure (.tuple #[]), .pure (.tuple #[]), .pure (.tuple #[]), .pure (.tuple #[]), .pure (.tuple #[]), .pure (.tuple #[]), .pure (.tuple #[]), .pure (.tuple #[]), .pure (.tuple #[]), .pure (.tuple #[]), .pure (.tuple #[]), .pure (.tuple #[]), .pure (.tuple #[]), .pure (.tuple #[]), .pure (.tuple #[]), .pure (.tuple #[]), .pure (.tuple #[]), .pure (.tuple #[]), .pure (.tuple #[]), .pure (.tuple #[]), .pure (.tuple #[]), .pure (.tuple #[]), .pure (.tuple #[]), .pure (.tuple #[]), .pure (.tuple #[]), .pure (.tuple #[]), .pure (.tuple #[]), .pure (.tuple #[]), .pure (.tuple #[]), .pure (.tuple #[]), .pure (.tuple #[]), .pure (.tuple #[]), .pure (.tuple #[]), .pure (.tuple #[]), .pure (.tuple #[]), .pure (.tuple #[]), .pure (.tuple #[]), .pure (.tuple #[]), .pure (.tuple #[]), .pure (.tuple #[]), .pure (.tuple #[]), .pure (.tuple #[]), .pure (.tuple #[]), .pure (.tuple #[]), .pure (.tuple #[]), .pure (.tuple #[])], [(32, { cells := [.dsl 30, .dsl 31], opn := none, kind := .cells }), (31, { cells := [], opn := none, kind := .deep x55 x56 }), (30, { cells := [], opn := none, kind := .deep x53 x54 }), (29, { cells := [], opn := none, kind := .deep x51 x52 }), (28, { cells := [], opn := none, kind := .deep x49 x50 }), (27, { cells := [.dsl 25, .dsl 26], opn := none, kind := .cells }), (26, { cells := [], opn := none, kind := .deep x46 x47 }), (25, { cells := [], opn := none, kind := .deep x44 x45 }), (24, { cells := [], opn := none, kind := .deep x42 x43 }), (23, { cells := [], opn := none, kind := .deep x40 x41 }), (22, { cells := [.dsl 20, .dsl 21], opn := none, kind := .cells }), (21, { cells := [], opn := none, kind := .deep x37 x38 }), (20, { cells := [], opn := none, kind := .deep x35 x36 }), (19, { cells := [], opn := none, kind := .deep x33 x34 }), (18, { cells := [], opn := none, kind := .deep x31 x32 }), (17, { cells := [.dsl 15, .dsl 16], opn := none, kind := .cells }), (16, { cells := [], opn := none, kind := .deep x28 x29 }), (15, { cells := [], opn := none, kind := .deep x26 x27 }), (14, { cells := [], opn := none, kind := .deep x24 x25 }), (13, { cells := [], opn := none, kind := .deep x22 x23 }), (12, { cells := [.dsl 10, .dsl 11], opn := none, kind := .cells }), (11, { cells := [], opn := none, kind := .deep x19 x20 }), (10, { cells := [], opn := none, kind := .deep x17 x18 }), (9, { cells := [], opn := none, kind := .deep x15 x16 }), (8, { cells := [], opn := none, kind := .deep x13 x14 }), (7, { cells := [.dsl 5, .dsl 6], opn := none, kind := .cells }), (6, { cells := [], opn := none, kind := .deep x9 x10 }), (5, { cells := [], opn := none, kind := .deep x7 x8 }), (4, { cells := [], opn := none, kind := .deep x5 x6 }), (3, { cells := [], opn := none, kind := .deep x3 x4 }), (2, { cells := [.dsl 0, .dsl 1], opn := none, kind := .cells }), (1, { cells := [], opn := none, kind := .deep kb cb }), (0, { cells := [], opn := none, kind := .deep ka ca })])
def law6_L22_A : LoopAt := ⟨6, loopAt Try.prog 6 1, 33, 75, 33, noFrame⟩
theorem law6_L22_ok : (law6_L22_A).OK := ⟨by show 33 ≤ 75; decide, by show 33 ≤ 33; decide, by kernel_rfl, rfl⟩
def law6_L22_gs (ka : Nat) (ca : List D) (kb : Nat) (cb : List D) (n : Int) (x0 : Bool) (x1 : Bool) (x2 : Int) (x3 : Nat) (x4 : List D) (x5 : Nat) (x6 : List D) (x7 : Nat) (x8 : List D) (x9 : Nat) (x10 : List D) (x11 : Int) (x12 : Int) (x13 : Nat) (x14 : List D) (x15 : Nat) (x16 : List D) (x17 : Nat) (x18 : List D) (x19 : Nat) (x20 : List D) (x21 : Int) (x22 : Nat) (x23 : List D) (x24 : Nat) (x25 : List D) (x26 : Nat) (x27 : List D) (x28 : Nat) (x29 : List D) (x30 : Int) (x31 : Nat) (x32 : List D) (x33 : Nat) (x34 : List D) (x35 : Nat) (x36 : List D) (x37 : Nat) (x38 : List D) (x39 : Int) (x40 : Nat) (x41 : List D) (x42 : Nat) (x43 : List D) (x44 : Nat) (x45 : List D) (x46 : Nat) (x47 : List D) (x48 : Int) (x49 : Nat) (x50 : List D) (x51 : Nat) (x52 : List D) (x53 : Nat) (x54 : List D) (x55 : Nat) (x56 : List D) (x57 : Int) (x58 : Bool) : Go.Ev.Rd → Option GS
  | .next 0 ds => ghost [.val 19] (4 :: (List.range' 149 40)) (law6_L22_E ka ca kb cb n x0 x1 x2 x3 x4 x5 x6 x7 x8 x9 x10 x11 x12 x13 x14 x15 x16 x17 x18 x19 x20 x21 x22 x23 x24 x25 x26 x27 x28 x29 x30 x31 x32 x33 x34 x35 x36 x37 x38 x39 x40 x41 x42 x43 x44 x45 x46 x47 x48 x49 x50 x51 x52 x53 x54 x55 x56 x57 x58).1 (law6_L22_E ka ca kb cb n x0 x1 x2 x3 x4 x5 x6 x7 x8 x9 x10 x11 x12 x13 x14 x15 x16 x17 x18 x19 x20 x21 x22 x23 x24 x25 x26 x27 x28 x29 x30 x31 x32 x33 x34 x35 x36 x37 x38 x39 x40 x41 x42 x43 x44 x45 x46 x47 x48 x49 x50 x51 x52 x53 x54 x55 x56 x57 x58).2 33 ds
  | .out 0 ds => ghost law6_x22_0.live law6_x22_0.junk (law6_L22_E ka ca kb cb n x0 x1 x2 x3 x4 x5 x6 x7 x8 x9 x10 x11 x12 x13 x14 x15 x16 x17 x18 x19 x20 x21 x22 x23 x24 x25 x26 x27 x28 x29 x30 x31 x32 x33 x34 x35 x36 x37 x38 x39 x40 x41 x42 x43 x44 x45 x46 x47 x48 x49 x50 x51 x52 x53 x54 x55 x56 x57 x58).1 (law6_L22_E ka ca kb cb n x0 x1 x2 x3 x4 x5 x6 x7 x8 x9 x10 x11 x12 x13 x14 x15 x16 x17 x18 x19 x20 x21 x22 x23 x24 x25 x26 x27 x28 x29 x30 x31 x32 x33 x34 x35 x36 x37 x38 x39 x40 x41 x42 x43 x44 x45 x46 x47 x48 x49 x50 x51 x52 x53 x54 x55 x56 x57 x58).2 33 ds
  | .out 1 ds => ghost law6_x22_1.live law6_x22_1.junk (law6_L22_E ka ca kb cb n x0 x1 x2 x3 x4 x5 x6 x7 x8 x9 x10 x11 x12 x13 x14 x15 x16 x17 x18 x19 x20 x21 x22 x23 x24 x25 x26 x27 x28 x29 x30 x31 x32 x33 x34 x35 x36 x37 x38 x39 x40 x41 x42 x43 x44 x45 x46 x47 x48 x49 x50 x51 x52 x53 x54 x55 x56 x57 x58).1 (law6_L22_E ka ca kb cb n x0 x1 x2 x3 x4 x5 x6 x7 x8 x9 x10 x11 x12 x13 x14 x15 x16 x17 x18 x19 x20 x21 x22 x23 x24 x25 x26 x27 x28 x29 x30 x31 x32 x33 x34 x35 x36 x37 x38 x39 x40 x41 x42 x43 x44 x45 x46 x47 x48 x49 x50 x51 x52 x53 x54 x55 x56 x57 x58).2 33 ds
  | _ => none
def law6_L22_ex : Nat → Option Nat
  | 0 => law6_x22_0.ex
  | 1 => law6_x22_1.ex
  | _ => none
def law6_L22_ax : Go.Ev.Rd → AX
  | .next _ _ => .normal
  | .out j _ => axOf (law6_L22_ex j)
def law6_L22_S0 (ka : Nat) (ca : List D) (kb : Nat) (cb : List D) (n : Int) (x0 : Bool) (x1 : Bool) (x2 : Int) (x3 : Nat) (x4 : List D) (x5 : Nat) (x6 : List D) (x7 : Nat) (x8 : List D) (x9 : Nat) (x10 : List D) (x11 : Int) (x12 : Int) (x13 : Nat) (x14 : List D) (x15 : Nat) (x16 : List D) (x17 : Nat) (x18 : List D) (x19 : Nat) (x20 : List D) (x21 : Int) (x22 : Nat) (x23 : List D) (x24 : Nat) (x25 : List D) (x26 : Nat) (x27 : List D) (x28 : Nat) (x29 : List D) (x30 : Int) (x31 : Nat) (x32 : List D) (x33 : Nat) (x34 : List D) (x35 : Nat) (x36 : List D) (x37 : Nat) (x38 : List D) (x39 : Int) (x40 : Nat) (x41 : List D) (x42 : Nat) (x43 : List D) (x44 : Nat) (x45 : List D) (x46 : Nat) (x47 : List D) (x48 : Int) (x49 : Nat) (x50 : List D) (x51 : Nat) (x52 : List D) (x53 : Nat) (x54 : List D) (x55 : Nat) (x56 : List D) (x57 : Int) (x58 : Bool) (ds : List D) : Option Go.Ev.Rd := pullD (α := Int) (some (.tup ds)) (fun d => ((D.vi (D.at d 0)))) (fun s19 => .tup [iD s19]) fun s19 => ((if s19 < (ka : Int) then guardP ((0 : Int) ≤ IntKind.i64.wrap (IntKind.i64.wrap ((ka : Int) - (1 : Int)) - s19) ∧ (IntKind.i64.wrap (IntKind.i64.wrap ((ka : Int) - (1 : Int)) - s19)).toNat < x35) (pullD (α := Int) (readD x36 ((IntKind.i64.wrap (IntKind.i64.wrap ((ka : Int) - (1 : Int)) - s19)).toNat * 1) 1 false) (fun d => ((D.vi d))) (fun v0 => iD v0) fun v0 => (guardP ((0 : Int) ≤ s19 ∧ s19.toNat < x26) (pullD (α := Int) (readD x27 (s19.toNat * 1) 1 false) (fun d => ((D.vi d))) (fun v1 => iD v1) fun v1 => ((if v0 ≠ IntKind.i64.wrap ((0 : Int) - v1) then some (.out 1 [.one (.bool false)]) else guardP ((0 : Int) ≤ IntKind.i64.wrap (IntKind.i64.wrap ((ka : Int) - (1 : Int)) - s19) ∧ (IntKind.i64.wrap (IntKind.i64.wrap ((ka : Int) - (1 : Int)) - s19)).toNat < x53) (pullD (α := Int) (readD x54 ((IntKind.i64.wrap (IntKind.i64.wrap ((ka : Int) - (1 : Int)) - s19)).toNat * 1) 1 false) (fun d => ((D.vi d))) (fun v2 => iD v2) fun v2 => (guardP ((0 : Int) ≤ s19 ∧ s19.toNat < x44) (pullD (α := Int) (readD x45 (s19.toNat * 1) 1 false) (fun d => ((D.vi d))) (fun v3 => iD v3) fun v3 => ((if v2 ≠ v3 then some (.out 1 [.one (.bool false)]) else some (.next 0 [iD (IntKind.i64.wrap (s19 + (1 : Int)))]))))))))))) else some (.out 0 [])))
def law6_L22_S (ka : Nat) (ca : List D) (kb : Nat) (cb : List D) (n : Int) (x0 : Bool) (x1 : Bool) (x2 : Int) (x3 : Nat) (x4 : List D) (x5 : Nat) (x6 : List D) (x7 : Nat) (x8 : List D) (x9 : Nat) (x10 : List D) (x11 : Int) (x12 : Int) (x13 : Nat) (x14 : List D) (x15 : Nat) (x16 : List D) (x17 : Nat) (x18 : List D) (x19 : Nat) (x20 : List D) (x21 : Int) (x22 : Nat) (x23 : List D) (x24 : Nat) (x25 : List D) (x26 : Nat) (x27 : List D) (x28 : Nat) (x29 : List D) (x30 : Int) (x31 : Nat) (x32 : List D) (x33 : Nat) (x34 : List D) (x35 : Nat) (x36 : List D) (x37 : Nat) (x38 : List D) (x39 : Int) (x40 : Nat) (x41 : List D) (x42 : Nat) (x43 : List D) (x44 : Nat) (x45 : List D) (x46 : Nat) (x47 : List D) (x48 : Int) (x49 : Nat) (x50 : List D) (x51 : Nat) (x52 : List D) (x53 : Nat) (x54 : List D) (x55 : Nat) (x56 : List D) (x57 : Int) (x58 : Bool) : Go.Ev.Rd → Option Go.Ev.Rd
  | .next 0 ds => law6_L22_S0 ka ca kb cb n x0 x1 x2 x3 x4 x5 x6 x7 x8 x9 x10 x11 x12 x13 x14 x15 x16 x17 x18 x19 x20 x21 x22 x23 x24 x25 x26 x27 x28 x29 x30 x31 x32 x33 x34 x35 x36 x37 x38 x39 x40 x41 x42 x43 x44 x45 x46 x47 x48 x49 x50 x51 x52 x53 x54 x55 x56 x57 x58 ds
  | _ => none
theorem law6_L22_S_ok (ka : Nat) (ca : List D) (kb : Nat) (cb : List D) (n : Int) (x0 : Bool) (x1 : Bool) (x2 : Int) (x3 : Nat) (x4 : List D) (x5 : Nat) (x6 : List D) (x7 : Nat) (x8 : List D) (x9 : Nat) (x10 : List D) (x11 : Int) (x12 : Int) (x13 : Nat) (x14 : List D) (x15 : Nat) (x16 : List D) (x17 : Nat) (x18 : List D) (x19 : Nat) (x20 : List D) (x21 : Int) (x22 : Nat) (x23 : List D) (x24 : Nat) (x25 : List D) (x26 : Nat) (x27 : List D) (x28 : Nat) (x29 : List D) (x30 : Int) (x31 : Nat) (x32 : List D) (x33 : Nat) (x34 : List D) (x35 : Nat) (x36 : List D) (x37 : Nat) (x38 : List D) (x39 : Int) (x40 : Nat) (x41 : List D) (x42 : Nat) (x43 : List D) (x44 : Nat) (x45 : List D) (x46 : Nat) (x47 : List D) (x48 : Int) (x49 : Nat) (x50 : List D) (x51 : Nat) (x52 : List D) (x53 : Nat) (x54 : List D) (x55 : Nat) (x56 : List D) (x57 : Int) (x58 : Bool) : ∀ s_ t_, law6_L22_S ka ca kb cb n x0 x1 x2 x3 x4 x5 x6 x7 x8 x9 x10 x11 x12 x13 x14 x15 x16 x17 x18 x19 x20 x21 x22 x23 x24 x25 x26 x27 x28 x29 x30 x31 x32 x33 x34 x35 x36 x37 x38 x39 x40 x41 x42 x43 x44 x45 x46 x47 x48 x49 x50 x51 x52 x53 x54 x55 x56 x57 x58 s_ = some t_ → Step (ctx [6] law6_sp) Tabs law6_L22_A (stateOf (law6_L22_gs ka ca kb cb n x0 x1 x2 x3 x4 x5 x6 x7 x8 x9 x10 x11 x12 x13 x14 x15 x16 x17 x18 x19 x20 x21 x22 x23 x24 x25 x26 x27 x28 x29 x30 x31 x32 x33 x34 x35 x36 x37 x38 x39 x40 x41 x42 x43 x44 x45 x46 x47 x48 x49 x50 x51 x52 x53 x54 x55 x56 x57 x58 s_)) (stateOf (law6_L22_gs ka ca kb cb n x0 x1 x2 x3 x4 x5 x6 x7 x8 x9 x10 x11 x12 x13 x14 x15 x16 x17 x18 x19 x20 x21 x22 x23 x24 x25 x26 x27 x28 x29 x30 x31 x32 x33 x34 x35 x36 x37 x38 x39 x40 x41 x42 x43 x44 x45 x46 x47 x48 x49 x50 x51 x52 x53 x54 x55 x56 x57 x58 t_)) (law6_L22_ax t_) ∧ EndOK law6_L22_A.nx law6_L22_A.low (law6_L22_gs ka ca kb cb n x0 x1 x2 x3 x4 x5 x6 x7 x8 x9 x10 x11 x12 x13 x14 x15 x16 x17 x18 x19 x20 x21 x22 x23 x24 x25 x26 x27 x28 x29 x30 x31 x32 x33 x34 x35 x36 x37 x38 x39 x40 x41 x42 x43 x44 x45 x46 x47 x48 x49 x50 x51 x52 x53 x54 x55 x56 x57 x58) t_
  | .next 0 ds, t_, h => by
    have h_ : law6_L22_S0 ka ca kb cb n x0 x1 x2 x3 x4 x5 x6 x7 x8 x9 x10 x11 x12 x13 x14 x15 x16 x17 x18 x19 x20 x21 x22 x23 x24 x25 x26 x27 x28 x29 x30 x31 x32 x33 x34 x35 x36 x37 x38 x39 x40 x41 x42 x43 x44 x45 x46 x47 x48 x49 x50 x51 x52 x53 x54 x55 x56 x57 x58 ds = some t_ := h
    clear h
    unfold law6_L22_S0 at h_
    obtain ⟨s19, e0, h0⟩ := pullD_elim h_
    clear h_
    obtain rfl := tup_inj e0
    by_cases b1_ : s19 < (ka : Int)
    · have h2_ := (if_pos b1_).symm.trans h0
      obtain ⟨f3_, h4_⟩ := guardP_elim h2_
      obtain ⟨v0, f5_, h6_⟩ := pullD_elim h4_
      replace f5_ := readD_elim f5_
      obtain ⟨f7_, h8_⟩ := guardP_elim h6_
      obtain ⟨v1, f9_, h10_⟩ := pullD_elim h8_
      replace f9_ := readD_elim f9_
      by_cases b11_ : v0 ≠ IntKind.i64.wrap ((0 : Int) - v1)
      · have h12_ := (if_pos b11_).symm.trans h10_
        obtain rfl := Option.some.inj h12_
        exact ⟨step_pc 3000 (bT 19 []) [iD v0, iD v1] [c_d b1_, c_f f3_, c_f f5_, c_f f7_, c_f f9_, c_b b11_, c_b b11_, c_b b11_, c_b b11_, c_b b11_, c_b b11_, c_b b11_, c_b b11_, c_b b11_, c_b b11_, c_b b11_, c_b b11_, c_b b11_, c_b b11_, c_b b11_, c_b b11_, c_b b11_, c_T] [] _ rfl (by kernel_rfl) (by kernel_rfl) (by kernel_rfl) (by kernel_rfl) (by kernel_rfl) (by kernel_rfl), by kernel_rfl, by kernel_rfl⟩
      have h12_ := (if_neg b11_).symm.trans h10_
      have b13_ : v0 = IntKind.i64.wrap ((0 : Int) - v1) := by first | exact b11_ | simpa using b11_
      obtain ⟨f14_, h15_⟩ := guardP_elim h12_
      obtain ⟨v2, f16_, h17_⟩ := pullD_elim h15_
      replace f16_ := readD_elim f16_
      obtain ⟨f18_, h19_⟩ := guardP_elim h17_
      obtain ⟨v3, f20_, h21_⟩ := pullD_elim h19_
      replace f20_ := readD_elim f20_
      by_cases b22_ : v2 ≠ v3
      · have h23_ := (if_pos b22_).symm.trans h21_
        obtain rfl := Option.some.inj h23_
        exact ⟨step_pc 3000 (bT 1 (bF 17 (bT 1 []))) [iD v0, iD v1, iD v2, iD v3] [c_d b1_, c_f f3_, c_f f5_, c_f f7_, c_f f9_, c_bn b13_, c_bn b13_, c_bn b13_, c_bn b13_, c_bn b13_, c_bn b13_, c_bn b13_, c_bn b13_, c_f f14_, c_bn b13_, c_f f16_, c_bn b13_, c_bn b13_, c_bn b13_, c_bn b13_, c_bn b13_, c_f f18_, c_bn b13_, c_f f20_, c_bn b13_, c_bn b13_, c_b b22_] [] _ rfl (by kernel_rfl) (by kernel_rfl) (by kernel_rfl) (by kernel_rfl) (by kernel_rfl) (by kernel_rfl), by kernel_rfl, by kernel_rfl⟩
      have h23_ := (if_neg b22_).symm.trans h21_
      have b24_ : v2 = v3 := by first | exact b22_ | simpa using b22_
      obtain rfl := Option.some.inj h23_
      exact ⟨step_pc 3000 (bT 1 (bF 18 [])) [iD v0, iD v1, iD v2, iD v3] [c_d b1_, c_f f3_, c_f f5_, c_f f7_, c_f f9_, c_bn b13_, c_bn b13_, c_bn b13_, c_bn b13_, c_bn b13_, c_bn b13_, c_bn b13_, c_bn b13_, c_f f14_, c_bn b13_, c_f f16_, c_bn b13_, c_bn b13_, c_bn b13_, c_bn b13_, c_bn b13_, c_f f18_, c_bn b13_, c_f f20_, c_bn b13_, c_bn b13_, c_bn b24_] [] _ rfl (by kernel_rfl) (by kernel_rfl) (by kernel_rfl) (by kernel_rfl) (by kernel_rfl) (by kernel_rfl), trivial⟩
    have h2_ := (if_neg b1_).symm.trans h0
    obtain rfl := Option.some.inj h2_
    exact ⟨step_pc 3000 (bF 1 []) [] [c_n b1_] [] _ rfl (by kernel_rfl) (by kernel_rfl) (by kernel_rfl) (by kernel_rfl) (by kernel_rfl) (by kernel_rfl), by kernel_rfl, by kernel_rfl⟩
  | .next (_ + 1) _, _, h => by cases h
  | .out _ _, _, h => by cases h
theorem law6_L22_go (ka : Nat) (ca : List D) (kb : Nat) (cb : List D) (n : Int) (x0 : Bool) (x1 : Bool) (x2 : Int) (x3 : Nat) (x4 : List D) (x5 : Nat) (x6 : List D) (x7 : Nat) (x8 : List D) (x9 : Nat) (x10 : List D) (x11 : Int) (x12 : Int) (x13 : Nat) (x14 : List D) (x15 : Nat) (x16 : List D) (x17 : Nat) (x18 : List D) (x19 : Nat) (x20 : List D) (x21 : Int) (x22 : Nat) (x23 : List D) (x24 : Nat) (x25 : List D) (x26 : Nat) (x27 : List D) (x28 : Nat) (x29 : List D) (x30 : Int) (x31 : Nat) (x32 : List D) (x33 : Nat) (x34 : List D) (x35 : Nat) (x36 : List D) (x37 : Nat) (x38 : List D) (x39 : Int) (x40 : Nat) (x41 : List D) (x42 : Nat) (x43 : List D) (x44 : Nat) (x45 : List D) (x46 : Nat) (x47 : List D) (x48 : Int) (x49 : Nat) (x50 : List D) (x51 : Nat) (x52 : List D) (x53 : Nat) (x54 : List D) (x55 : Nat) (x56 : List D) (x57 : Int) (x58 : Bool) {q : Nat} {ds : List D} {j : Nat} {es : List D} (h : runR (law6_L22_S ka ca kb cb n x0 x1 x2 x3 x4 x5 x6 x7 x8 x9 x10 x11 x12 x13 x14 x15 x16 x17 x18 x19 x20 x21 x22 x23 x24 x25 x26 x27 x28 x29 x30 x31 x32 x33 x34 x35 x36 x37 x38 x39 x40 x41 x42 x43 x44 x45 x46 x47 x48 x49 x50 x51 x52 x53 x54 x55 x56 x57 x58) (.next q ds) = some (.out j es)) : Runs (ctx [6] law6_sp) Tabs law6_L22_A (stateOf (law6_L22_gs ka ca kb cb n x0 x1 x2 x3 x4 x5 x6 x7 x8 x9 x10 x11 x12 x13 x14 x15 x16 x17 x18 x19 x20 x21 x22 x23 x24 x25 x26 x27 x28 x29 x30 x31 x32 x33 x34 x35 x36 x37 x38 x39 x40 x41 x42 x43 x44 x45 x46 x47 x48 x49 x50 x51 x52 x53 x54 x55 x56 x57 x58 (.next q ds))) (stateOf (law6_L22_gs ka ca kb cb n x0 x1 x2 x3 x4 x5 x6 x7 x8 x9 x10 x11 x12 x13 x14 x15 x16 x17 x18 x19 x20 x21 x22 x23 x24 x25 x26 x27 x28 x29 x30 x31 x32 x33 x34 x35 x36 x37 x38 x39 x40 x41 x42 x43 x44 x45 x46 x47 x48 x49 x50 x51 x52 x53 x54 x55 x56 x57 x58 (.out j es))) (law6_L22_ax (.out j es)) ∧ (nxtOf (law6_L22_gs ka ca kb cb n x0 x1 x2 x3 x4 x5 x6 x7 x8 x9 x10 x11 x12 x13 x14 x15 x16 x17 x18 x19 x20 x21 x22 x23 x24 x25 x26 x27 x28 x29 x30 x31 x32 x33 x34 x35 x36 x37 x38 x39 x40 x41 x42 x43 x44 x45 x46 x47 x48 x49 x50 x51 x52 x53 x54 x55 x56 x57 x58 (.out j es)), lowGS (law6_L22_gs ka ca kb cb n x0 x1 x2 x3 x4 x5 x6 x7 x8 x9 x10 x11 x12 x13 x14 x15 x16 x17 x18 x19 x20 x21 x22 x23 x24 x25 x26 x27 x28 x29 x30 x31 x32 x33 x34 x35 x36 x37 x38 x39 x40 x41 x42 x43 x44 x45 x46 x47 x48 x49 x50 x51 x52 x53 x54 x55 x56 x57 x58 (.out j es))) = (law6_L22_A.nx, law6_L22_A.low) :=
  runs_of' (good true _ _) law6_L22_ok (ax := law6_L22_ax) (fun _ _ => rfl) (fun _ _ => axOf_end _) (law6_L22_S_ok ka ca kb cb n x0 x1 x2 x3 x4 x5 x6 x7 x8 x9 x10 x11 x12 x13 x14 x15 x16 x17 x18 x19 x20 x21 x22 x23 x24 x25 x26 x27 x28 x29 x30 x31 x32 x33 x34 x35 x36 x37 x38 x39 x40 x41 x42 x43 x44 x45 x46 x47 x48 x49 x50 x51 x52 x53 x54 x55 x56 x57 x58) h
theorem law6_L22_in0 (ka : Nat) (ca : List D) (kb : Nat) (cb : List D) (n : Int) (x0 : Bool) (x1 : Bool) (x2 : Int) (x3 : Nat) (x4 : List D) (x5 : Nat) (x6 : List D) (x7 : Nat) (x8 : List D) (x9 : Nat) (x10 : List D) (x11 : Int) (x12 : Int) (x13 : Nat) (x14 : List D) (x15 : Nat) (x16 : List D) (x17 : Nat) (x18 : List D) (x19 : Nat) (x20 : List D) (x21 : Int) (x22 : Nat) (x23 : List D) (x24 : Nat) (x25 : List D) (x26 : Nat) (x27 : List D) (x28 : Nat) (x29 : List D) (x30 : Int) (x31 : Nat) (x32 : List D) (x33 : Nat) (x34 : List D) (x35 : Nat) (x36 : List D) (x37 : Nat) (x38 : List D) (x39 : Int) (x40 : Nat) (x41 : List D) (x42 : Nat) (x43 : List D) (x44 : Nat) (x45 : List D) (x46 : Nat) (x47 : List D) (x48 : Int) (x49 : Nat) (x50 : List D) (x51 : Nat) (x52 : List D) (x53 : Nat) (x54 : List D) (x55 : Nat) (x56 : List D) (x57 : Int) (x58 : Bool) {es : List D} (h : runR (law6_L22_S ka ca kb cb n x0 x1 x2 x3 x4 x5 x6 x7 x8 x9 x10 x11 x12 x13 x14 x15 x16 x17 x18 x19 x20 x21 x22 x23 x24 x25 x26 x27 x28 x29 x30 x31 x32 x33 x34 x35 x36 x37 x38 x39 x40 x41 x42 x43 x44 x45 x46 x47 x48 x49 x50 x51 x52 x53 x54 x55 x56 x57 x58) (.next 0 [iD ((0 : Int))]) = some (.out 0 es)) : LoopC (loopAt Try.prog 6 1) (law6_L22_E ka ca kb cb n x0 x1 x2 x3 x4 x5 x6 x7 x8 x9 x10 x11 x12 x13 x14 x15 x16 x17 x18 x19 x20 x21 x22 x23 x24 x25 x26 x27 x28 x29 x30 x31 x32 x33 x34 x35 x36 x37 x38 x39 x40 x41 x42 x43 x44 x45 x46 x47 x48 x49 x50 x51 x52 x53 x54 x55 x56 x57 x58) 33 noFrame law6_x22_0 es :=
  have r := law6_L22_go ka ca kb cb n x0 x1 x2 x3 x4 x5 x6 x7 x8 x9 x10 x11 x12 x13 x14 x15 x16 x17 x18 x19 x20 x21 x22 x23 x24 x25 x26 x27 x28 x29 x30 x31 x32 x33 x34 x35 x36 x37 x38 x39 x40 x41 x42 x43 x44 x45 x46 x47 x48 x49 x50 x51 x52 x53 x54 x55 x56 x57 x58 h
  loopin_as rfl (loop_in (l := law6_L22_A) (E := (law6_L22_E ka ca kb cb n x0 x1 x2 x3 x4 x5 x6 x7 x8 x9 x10 x11 x12 x13 x14 x15 x16 x17 x18 x19 x20 x21 x22 x23 x24 x25 x26 x27 x28 x29 x30 x31 x32 x33 x34 x35 x36 x37 x38 x39 x40 x41 x42 x43 x44 x45 x46 x47 x48 x49 x50 x51 x52 x53 x54 x55 x56 x57 x58)) (S := stateOf (law6_L22_gs ka ca kb cb n x0 x1 x2 x3 x4 x5 x6 x7 x8 x9 x10 x11 x12 x13 x14 x15 x16 x17 x18 x19 x20 x21 x22 x23 x24 x25 x26 x27 x28 x29 x30 x31 x32 x33 x34 x35 x36 x37 x38 x39 x40 x41 x42 x43 x44 x45 x46 x47 x48 x49 x50 x51 x52 x53 x54 x55 x56 x57 x58 (.next 0 [iD ((0 : Int))]))) (ns := nsOf (law6_L22_gs ka ca kb cb n x0 x1 x2 x3 x4 x5 x6 x7 x8 x9 x10 x11 x12 x13 x14 x15 x16 x17 x18 x19 x20 x21 x22 x23 x24 x25 x26 x27 x28 x29 x30 x31 x32 x33 x34 x35 x36 x37 x38 x39 x40 x41 x42 x43 x44 x45 x46 x47 x48 x49 x50 x51 x52 x53 x54 x55 x56 x57 x58 (.next 0 [iD ((0 : Int))]))) law6_L22_ok r.1 r.2 (by kernel_rfl) (by kernel_rfl) (by kernel_rfl) (by kernel_rfl))
theorem law6_L22_in1 (ka : Nat) (ca : List D) (kb : Nat) (cb : List D) (n : Int) (x0 : Bool) (x1 : Bool) (x2 : Int) (x3 : Nat) (x4 : List D) (x5 : Nat) (x6 : List D) (x7 : Nat) (x8 : List D) (x9 : Nat) (x10 : List D) (x11 : Int) (x12 : Int) (x13 : Nat) (x14 : List D) (x15 : Nat) (x16 : List D) (x17 : Nat) (x18 : List D) (x19 : Nat) (x20 : List D) (x21 : Int) (x22 : Nat) (x23 : List D) (x24 : Nat) (x25 : List D) (x26 : Nat) (x27 : List D) (x28 : Nat) (x29 : List D) (x30 : Int) (x31 : Nat) (x32 : List D) (x33 : Nat) (x34 : List D) (x35 : Nat) (x36 : List D) (x37 : Nat) (x38 : List D) (x39 : Int) (x40 : Nat) (x41 : List D) (x42 : Nat) (x43 : List D) (x44 : Nat) (x45 : List D) (x46 : Nat) (x47 : List D) (x48 : Int) (x49 : Nat) (x50 : List D) (x51 : Nat) (x52 : List D) (x53 : Nat) (x54 : List D) (x55 : Nat) (x56 : List D) (x57 : Int) (x58 : Bool) {es : List D} (h : runR (law6_L22_S ka ca kb cb n x0 x1 x2 x3 x4 x5 x6 x7 x8 x9 x10 x11 x12 x13 x14 x15 x16 x17 x18 x19 x20 x21 x22 x23 x24 x25 x26 x27 x28 x29 x30 x31 x32 x33 x34 x35 x36 x37 x38 x39 x40 x41 x42 x43 x44 x45 x46 x47 x48 x49 x50 x51 x52 x53 x54 x55 x56 x57 x58) (.next 0 [iD ((0 : Int))]) = some (.out 1 es)) : LoopC (loopAt Try.prog 6 1) (law6_L22_E ka ca kb cb n x0 x1 x2 x3 x4 x5 x6 x7 x8 x9 x10 x11 x12 x13 x14 x15 x16 x17 x18 x19 x20 x21 x22 x23 x24 x25 x26 x27 x28 x29 x30 x31 x32 x33 x34 x35 x36 x37 x38 x39 x40 x41 x42 x43 x44 x45 x46 x47 x48 x49 x50 x51 x52 x53 x54 x55 x56 x57 x58) 33 noFrame law6_x22_1 es :=
  have r := law6_L22_go ka ca kb cb n x0 x1 x2 x3 x4 x5 x6 x7 x8 x9 x10 x11 x12 x13 x14 x15 x16 x17 x18 x19 x20 x21 x22 x23 x24 x25 x26 x27 x28 x29 x30 x31 x32 x33 x34 x35 x36 x37 x38 x39 x40 x41 x42 x43 x44 x45 x46 x47 x48 x49 x50 x51 x52 x53 x54 x55 x56 x57 x58 h
  loopin_as rfl (loop_in (l := law6_L22_A) (E := (law6_L22_E ka ca kb cb n x0 x1 x2 x3 x4 x5 x6 x7 x8 x9 x10 x11 x12 x13 x14 x15 x16 x17 x18 x19 x20 x21 x22 x23 x24 x25 x26 x27 x28 x29 x30 x31 x32 x33 x34 x35 x36 x37 x38 x39 x40 x41 x42 x43 x44 x45 x46 x47 x48 x49 x50 x51 x52 x53 x54 x55 x56 x57 x58)) (S := stateOf (law6_L22_gs ka ca kb cb n x0 x1 x2 x3 x4 x5 x6 x7 x8 x9 x10 x11 x12 x13 x14 x15 x16 x17 x18 x19 x20 x21 x22 x23 x24 x25 x26 x27 x28 x29 x30 x31 x32 x33 x34 x35 x36 x37 x38 x39 x40 x41 x42 x43 x44 x45 x46 x47 x48 x49 x50 x51 x52 x53 x54 x55 x56 x57 x58 (.next 0 [iD ((0 : Int))]))) (ns := nsOf (law6_L22_gs ka ca kb cb n x0 x1 x2 x3 x4 x5 x6 x7 x8 x9 x10 x11 x12 x13 x14 x15 x16 x17 x18 x19 x20 x21 x22 x23 x24 x25 x26 x27 x28 x29 x30 x31 x32 x33 x34 x35 x36 x37 x38 x39 x40 x41 x42 x43 x44 x45 x46 x47 x48 x49 x50 x51 x52 x53 x54 x55 x56 x57 x58 (.next 0 [iD ((0 : Int))]))) law6_L22_ok r.1 r.2 (by kernel_rfl) (by kernel_rfl) (by kernel_rfl) (by kernel_rfl))
def law6_M_s0 (ka : Nat) (ca : List D) (kb : Nat) (cb : List D) (n : Int) (r0 : Bool) (r1 : Bool) (r2 : Int) (k3 : Nat) (c4 : List D) (k5 : Nat) (c6 : List D) (k7 : Nat) (c8 : List D) (k9 : Nat) (c10 : List D) (r11 : Int) : Option D := pullD (α := Int) (m_16 [.agg [.list k7 c8, .list k9 c10]]) (fun d => ((D.vi d))) (fun r12 => iD r12) fun r12 => ((if r12 ≠ (0 : Int) then some (.one (.bool false)) else (if (k7 : Int) ≠ (ka : Int) then some (.one (.bool false)) else pullD (α := Nat × (List D) × Nat × (List D)) (m_11 [.agg [.list k7 c8, .list k9 c10]]) (fun d => ((D.ln (D.at d 0)), (D.lc (D.at d 0)), (D.ln (D.at d 1)), (D.lc (D.at d 1)))) (fun (k13, c14, k15, c16) => .agg [.list k13 c14, .list k15 c16]) fun (k13, c14, k15, c16) => (pullD (α := Nat × (List D) × Nat × (List D) × Int) (m_28 [.agg [.list k13 c14, .list k15 c16]]) (fun d => ((D.ln (D.at (D.at d 0) 0)), (D.lc (D.at (D.at d 0) 0)), (D.ln (D.at (D.at d 0) 1)), (D.lc (D.at (D.at d 0) 1)), (D.vi (D.at d 1)))) (fun (k17, c18, k19, c20, r21) => .tup [.agg [.list k17 c18, .list k19 c20], iD r21]) fun (k17, c18, k19, c20, r21) => (pullD (α := Nat × (List D) × Nat × (List D)) (m_11 [.agg [.list ka ca, .list kb cb]]) (fun d => ((D.ln (D.at d 0)), (D.lc (D.at d 0)), (D.ln (D.at d 1)), (D.lc (D.at d 1)))) (fun (k22, c23, k24, c25) => .agg [.list k22 c23, .list k24 c25]) fun (k22, c23, k24, c25) => (pullD (α := Nat × (List D) × Nat × (List D) × Int) (m_12 [.agg [.list k22 c23, .list k24 c25]]) (fun d => ((D.ln (D.at (D.at d 0) 0)), (D.lc (D.at (D.at d 0) 0)), (D.ln (D.at (D.at d 0) 1)), (D.lc (D.at (D.at d 0) 1)), (D.vi (D.at d 1)))) (fun (k26, c27, k28, c29, r30) => .tup [.agg [.list k26 c27, .list k28 c29], iD r30]) fun (k26, c27, k28, c29, r30) => (pullD (α := Nat × (List D) × Nat × (List D)) (m_11 [.agg [.list k7 c8, .list k9 c10]]) (fun d => ((D.ln (D.at d 0)), (D.lc (D.at d 0)), (D.ln (D.at d 1)), (D.lc (D.at d 1)))) (fun (k31, c32, k33, c34) => .agg [.list k31 c32, .list k33 c34]) fun (k31, c32, k33, c34) => (pullD (α := Nat × (List D) × Nat × (List D) × Int) (m_12 [.agg [.list k31 c32, .list k33 c34]]) (fun d => ((D.ln (D.at (D.at d 0) 0)), (D.lc (D.at (D.at d 0) 0)), (D.ln (D.at (D.at d 0) 1)), (D.lc (D.at (D.at d 0) 1)), (D.vi (D.at d 1)))) (fun (k35, c36, k37, c38, r39) => .tup [.agg [.list k35 c36, .list k37 c38], iD r39]) fun (k35, c36, k37, c38, r39) => (pullD (α := Nat × (List D) × Nat × (List D)) (m_11 [.agg [.list ka ca, .list kb cb]]) (fun d => ((D.ln (D.at d 0)), (D.lc (D.at d 0)), (D.ln (D.at d 1)), (D.lc (D.at d 1)))) (fun (k40, c41, k42, c43) => .agg [.list k40 c41, .list k42 c43]) fun (k40, c41, k42, c43) => (pullD (α := Nat × (List D) × Nat × (List D) × Int) (m_14 [.agg [.list k40 c41, .list k42 c43]]) (fun d => ((D.ln (D.at (D.at d 0) 0)), (D.lc (D.at (D.at d 0) 0)), (D.ln (D.at (D.at d 0) 1)), (D.lc (D.at (D.at d 0) 1)), (D.vi (D.at d 1)))) (fun (k44, c45, k46, c47, r48) => .tup [.agg [.list k44 c45, .list k46 c47], iD r48]) fun (k44, c45, k46, c47, r48) => (pullD (α := Nat × (List D) × Nat × (List D)) (m_11 [.agg [.list k7 c8, .list k9 c10]]) (fun d => ((D.ln (D.at d 0)), (D.lc (D.at d 0)), (D.ln (D.at d 1)), (D.lc (D.at d 1)))) (fun (k49, c50, k51, c52) => .agg [.list k49 c50, .list k51 c52]) fun (k49, c50, k51, c52) => (pullD (α := Nat × (List D) × Nat × (List D) × Int) (m_14 [.agg [.list k49 c50, .list k51 c52]]) (fun d => ((D.ln (D.at (D.at d 0) 0)), (D.lc (D.at (D.at d 0) 0)), (D.ln (D.at (D.at d 0) 1)), (D.lc (D.at (D.at d 0) 1)), (D.vi (D.at d 1)))) (fun (k53, c54, k55, c56, r57) => .tup [.agg [.list k53 c54, .list k55 c56], iD r57]) fun (k53, c54, k55, c56, r57) => ((if r21 ≠ (0 : Int) then some (.one (.bool false)) else pullD (α := Bool) (m_30 [.agg [.list k17 c18, .list k19 c20], .agg [.list ka ca, .list kb cb]]) (fun d => ((D.vb d))) (fun r58 => .one (.bool r58)) fun r58 => ((if r58 = false then some (.one (.bool false)) else (if r30 ≠ (0 : Int) then some (.one (.bool false)) else (if r39 ≠ (0 : Int) then some (.one (.bool false)) else (if r48 ≠ (0 : Int) then some (.one (.bool false)) else (if r57 ≠ (0 : Int) then some (.one (.bool false)) else (if (k26 : Int) ≠ (ka : Int) then some (.one (.bool false)) else (if (k35 : Int) ≠ (ka : Int) then some (.one (.bool false)) else (if (k44 : Int) ≠ (ka : Int) then some (.one (.bool false)) else (if (k53 : Int) ≠ (ka : Int) then some (.one (.bool false)) else bindL (runR (law6_L22_S ka ca kb cb n r0 r1 r2 k3 c4 k5 c6 k7 c8 k9 c10 r11 r12 k13 c14 k15 c16 k17 c18 k19 c20 r21 k22 c23 k24 c25 k26 c27 k28 c29 r30 k31 c32 k33 c34 k35 c36 k37 c38 r39 k40 c41 k42 c43 k44 c45 k46 c47 r48 k49 c50 k51 c52 k53 c54 k55 c56 r57 r58) (.next 0 [iD ((0 : Int))])) fun j ds => (if j = 0 then pullD (some (.tup ds)) (fun _ => ()) (fun _ => .tup []) fun _ => ((if (k28 : Int) ≠ (ka : Int) then some (.one (.bool false)) else (if (k37 : Int) ≠ (ka : Int) then some (.one (.bool false)) else (if (k46 : Int) ≠ (ka : Int) then some (.one (.bool false)) else (if (k55 : Int) ≠ (ka : Int) then some (.one (.bool false)) else bindL (runR (law6_L22_1_S ka ca kb cb n r0 r1 r2 k3 c4 k5 c6 k7 c8 k9 c10 r11 r12 k13 c14 k15 c16 k17 c18 k19 c20 r21 k22 c23 k24 c25 k26 c27 k28 c29 r30 k31 c32 k33 c34 k35 c36 k37 c38 r39 k40 c41 k42 c43 k44 c45 k46 c47 r48 k49 c50 k51 c52 k53 c54 k55 c56 r57 r58) (.next 0 [iD ((0 : Int))])) fun j ds => (if j = 0 then pullD (some (.tup ds)) (fun _ => ()) (fun _ => .tup []) fun _ => (pullD (α := Int) (m_32 [.agg [.list ka ca, .list kb cb], iD n]) (fun d => ((D.vi d))) (fun r59 => iD r59) fun r59 => ((if r59 ≠ (0 : Int) then some (.one (.bool true)) else pullD (α := Nat × (List D) × Nat × (List D)) (m_11 [.agg [.list ka ca, .list kb cb]]) (fun d => ((D.ln (D.at d 0)), (D.lc (D.at d 0)), (D.ln (D.at d 1)), (D.lc (D.at d 1)))) (fun (k60, c61, k62, c63) => .agg [.list k60 c61, .list k62 c63]) fun (k60, c61, k62, c63) => (pullD (α := Nat × (List D) × Nat × (List D) × Int) (m_27 [.agg [.list k60 c61, .list k62 c63], iD n]) (fun d => ((D.ln (D.at (D.at d 0) 0)), (D.lc (D.at (D.at d 0) 0)), (D.ln (D.at (D.at d 0) 1)), (D.lc (D.at (D.at d 0) 1)), (D.vi (D.at d 1)))) (fun (k64, c65, k66, c67, r68) => .tup [.agg [.list k64 c65, .list k66 c67], iD r68]) fun (k64, c65, k66, c67, r68) => (pullD (α := Nat × (List D) × Nat × (List D) × Int) (m_27 [.agg [.list k7 c8, .list k9 c10], iD (IntKind.i64.wrap ((0 : Int) - n))]) (fun d => ((D.ln (D.at (D.at d 0) 0)), (D.lc (D.at (D.at d 0) 0)), (D.ln (D.at (D.at d 0) 1)), (D.lc (D.at (D.at d 0) 1)), (D.vi (D.at d 1)))) (fun (k69, c70, k71, c72, r73) => .tup [.agg [.list k69 c70, .list k71 c72], iD r73]) fun (k69, c70, k71, c72, r73) => ((if r68 ≠ (0 : Int) then some (.one (.bool false)) else (if r73 ≠ (0 : Int) then some (.one (.bool false)) else pullD (α := Int) (m_16 [.agg [.list k64 c65, .list k66 c67]]) (fun d => ((D.vi d))) (fun r74 => iD r74) fun r74 => ((if r74 ≠ (0 : Int) then some (.one (.bool false)) else pullD (α := Nat × (List D) × Nat × (List D) × Int) (m_28 [.agg [.list k64 c65, .list k66 c67]]) (fun d => ((D.ln (D.at (D.at d 0) 0)), (D.lc (D.at (D.at d 0) 0)), (D.ln (D.at (D.at d 0) 1)), (D.lc (D.at (D.at d 0) 1)), (D.vi (D.at d 1)))) (fun (k75, c76, k77, c78, r79) => .tup [.agg [.list k75 c76, .list k77 c78], iD r79]) fun (k75, c76, k77, c78, r79) => ((if r79 = (0 : Int) then pullD (α := Bool) (m_30 [.agg [.list k75 c76, .list k77 c78], .agg [.list k69 c70, .list k71 c72]]) (fun d => ((D.vb d))) (fun r80 => .one (.bool r80)) fun r80 => (some (.one (.bool r80))) else some (.one (.bool false)))))))))))))) else if j = 1 then pullD (α := Bool) (some (.tup ds)) (fun d => ((D.vb (D.at d 0)))) (fun l81 => .tup [.one (.bool l81)]) fun l81 => (some (.one (.bool l81))) else none)))))) else if j = 1 then pullD (α := Bool) (some (.tup ds)) (fun d => ((D.vb (D.at d 0)))) (fun l82 => .tup [.one (.bool l82)]) fun l82 => (some (.one (.bool l82))) else none)))))))))))))))))))))))))
def law6_M (ka : Nat) (ca : List D) (kb : Nat) (cb : List D) (n : Int) : Option D := pullD (α := Bool) (m_8 []) (fun d => ((D.vb d))) (fun r0 => .one (.bool r0)) fun r0 => ((if r0 = false then some (.one (.bool false)) else pullD (α := Bool) (m_9 [.agg [.list ka ca, .list kb cb]]) (fun d => ((D.vb d))) (fun r1 => .one (.bool r1)) fun r1 => ((if r1 = false then some (.one (.bool true)) else pullD (α := Int) (m_16 [.agg [.list ka ca, .list kb cb]]) (fun d => ((D.vi d))) (fun r2 => iD r2) fun r2 => ((if r2 ≠ (0 : Int) then some (.one (.bool true)) else pullD (α := Nat × (List D) × Nat × (List D)) (m_11 [.agg [.list ka ca, .list kb cb]]) (fun d => ((D.ln (D.at d 0)), (D.lc (D.at d 0)), (D.ln (D.at d 1)), (D.lc (D.at d 1)))) (fun (k3, c4, k5, c6) => .agg [.list k3 c4, .list k5 c6]) fun (k3, c4, k5, c6) => (pullD (α := Nat × (List D) × Nat × (List D) × Int) (m_28 [.agg [.list k3 c4, .list k5 c6]]) (fun d => ((D.ln (D.at (D.at d 0) 0)), (D.lc (D.at (D.at d 0) 0)), (D.ln (D.at (D.at d 0) 1)), (D.lc (D.at (D.at d 0) 1)), (D.vi (D.at d 1)))) (fun (k7, c8, k9, c10, r11) => .tup [.agg [.list k7 c8, .list k9 c10], iD r11]) fun (k7, c8, k9, c10, r11) => ((if r11 ≠ (0 : Int) then some (.one (.bool false)) else law6_M_s0 ka ca kb cb n r0 r1 r2 k3 c4 k5 c6 k7 c8 k9 c10 r11)))))))))
theorem law6_M_s0_ok (ka : Nat) (ca : List D) (kb : Nat) (cb : List D) (n : Int) (r0 : Bool) (r1 : Bool) (r2 : Int) (k3 : Nat) (c4 : List D) (k5 : Nat) (c6 : List D) (k7 : Nat) (c8 : List D) (k9 : Nat) (c10 : List D) (r11 : Int) (f1_ : Con 8 [] (.one (.bool r0))) (b5_ : r0 = true) (f6_ : Con 9 [.agg [.list ka ca, .list kb cb]] (.one (.bool r1))) (b10_ : r1 = true) (f11_ : Con 16 [.agg [.list ka ca, .list kb cb]] (iD r2)) (b15_ : r2 = (0 : Int)) (f16_ : Con 11 [.agg [.list ka ca, .list kb cb]] (.agg [.list k3 c4, .list k5 c6])) (f18_ : Con 28 [.agg [.list k3 c4, .list k5 c6]] (.tup [.agg [.list k7 c8, .list k9 c10], iD r11])) (b22_ : r11 = (0 : Int)) {r : D} (h : law6_M_s0 ka ca kb cb n r0 r1 r2 k3 c4 k5 c6 k7 c8 k9 c10 r11 = some r) : Con 6 [.agg [.list ka ca, .list kb cb], iD n] r := by
  unfold law6_M_s0 at h
  obtain ⟨r12, fq1_, hq2_⟩ := pullD_elim h
  replace fq1_ := m_16_ok fq1_
  by_cases bq3_ : r12 ≠ (0 : Int)
  · have hq4_ := (if_pos bq3_).symm.trans hq2_
    obtain rfl := Option.some.inj hq4_
    exact con_pc (op := true) (I := [6]) (sp := law6_sp) 3000 (bF 10 (bT 9 [])) [.one (.bool r0), .one (.bool r1), iD r2, .agg [.list k3 c4, .list k5 c6], .tup [.agg [.list k7 c8, .list k9 c10], iD r11], iD r12] [c_nn b5_, c_nn b10_, c_nn b10_, c_nn b10_, c_nn b10_, c_bn b15_, c_bn b22_, c_bn b22_, c_bn b22_, c_bn b22_, c_b bq3_, c_b bq3_, c_b bq3_, c_b bq3_, c_b bq3_, c_b bq3_, c_b bq3_, c_b bq3_, c_T] [k_c f1_, k_c f6_, k_c f11_, k_c f16_, k_c f18_, k_c fq1_] (by kernel_rfl)
  have hq4_ := (if_neg bq3_).symm.trans hq2_
  have bq5_ : r12 = (0 : Int) := by first | exact bq3_ | simpa using bq3_
  by_cases bq6_ : (k7 : Int) ≠ (ka : Int)
  · have hq7_ := (if_pos bq6_).symm.trans hq4_
    obtain rfl := Option.some.inj hq7_
    exact con_pc (op := true) (I := [6]) (sp := law6_sp) 3000 (bF 18 (bT 1 [])) [.one (.bool r0), .one (.bool r1), iD r2, .agg [.list k3 c4, .list k5 c6], .tup [.agg [.list k7 c8, .list k9 c10], iD r11], iD r12] [c_nn b5_, c_nn b10_, c_nn b10_, c_nn b10_, c_nn b10_, c_bn b15_, c_bn b22_, c_bn b22_, c_bn b22_, c_bn b22_, c_bn bq5_, c_bn bq5_, c_bn bq5_, c_bn bq5_, c_bn bq5_, c_bn bq5_, c_bn bq5_, c_bn bq5_, c_b bq6_] [k_c f1_, k_c f6_, k_c f11_, k_c f16_, k_c f18_, k_c fq1_] (by kernel_rfl)
  have hq7_ := (if_neg bq6_).symm.trans hq4_
  have bq8_ : (k7 : Int) = (ka : Int) := by first | exact bq6_ | simpa using bq6_
  obtain ⟨⟨k13, c14, k15, c16⟩, fq9_, hq10_⟩ := pullD_elim hq7_
  replace fq9_ := m_11_ok fq9_
  obtain ⟨⟨k17, c18, k19, c20, r21⟩, fq11_, hq12_⟩ := pullD_elim hq10_
  replace fq11_ := m_28_ok fq11_
  obtain ⟨⟨k22, c23, k24, c25⟩, fq13_, hq14_⟩ := pullD_elim hq12_
  replace fq13_ := m_11_ok fq13_
  obtain ⟨⟨k26, c27, k28, c29, r30⟩, fq15_, hq16_⟩ := pullD_elim hq14_
  replace fq15_ := m_12_ok fq15_
  obtain ⟨⟨k31, c32, k33, c34⟩, fq17_, hq18_⟩ := pullD_elim hq16_
  replace fq17_ := m_11_ok fq17_
  obtain ⟨⟨k35, c36, k37, c38, r39⟩, fq19_, hq20_⟩ := pullD_elim hq18_
  replace fq19_ := m_12_ok fq19_
  obtain ⟨⟨k40, c41, k42, c43⟩, fq21_, hq22_⟩ := pullD_elim hq20_
  replace fq21_ := m_11_ok fq21_
  obtain ⟨⟨k44, c45, k46, c47, r48⟩, fq23_, hq24_⟩ := pullD_elim hq22_
  replace fq23_ := m_14_ok fq23_
  obtain ⟨⟨k49, c50, k51, c52⟩, fq25_, hq26_⟩ := pullD_elim hq24_
  replace fq25_ := m_11_ok fq25_
  obtain ⟨⟨k53, c54, k55, c56, r57⟩, fq27_, hq28_⟩ := pullD_elim hq26_
  replace fq27_ := m_14_ok fq27_
  by_cases bq29_ : r21 ≠ (0 : Int)
  · have hq30_ := (if_pos bq29_).symm.trans hq28_
    obtain rfl := Option.some.inj hq30_
    exact con_pc (op := true) (I := [6]) (sp := law6_sp) 3000 (bF 19 (bT 18 [])) [.one (.bool r0), .one (.bool r1), iD r2, .agg [.list k3 c4, .list k5 c6], .tup [.agg [.list k7 c8, .list k9 c10], iD r11], iD r12, .agg [.list k13 c14, .list k15 c16], .tup [.agg [.list k17 c18, .list k19 c20], iD r21], .agg [.list k22 c23, .list k24 c25], .tup [.agg [.list k26 c27, .list k28 c29], iD r30], .agg [.list k31 c32, .list k33 c34], .tup [.agg [.list k35 c36, .list k37 c38], iD r39], .agg [.list k40 c41, .list k42 c43], .tup [.agg [.list k44 c45, .list k46 c47], iD r48], .agg [.list k49 c50, .list k51 c52], .tup [.agg [.list k53 c54, .list k55 c56], iD r57]] [c_nn b5_, c_nn b10_, c_nn b10_, c_nn b10_, c_nn b10_, c_bn b15_, c_bn b22_, c_bn b22_, c_bn b22_, c_bn b22_, c_bn bq5_, c_bn bq5_, c_bn bq5_, c_bn bq5_, c_bn bq5_, c_bn bq5_, c_bn bq5_, c_bn bq5_, c_bn bq8_, c_b bq29_, c_b bq29_, c_b bq29_, c_b bq29_, c_b bq29_, c_T, c_T, c_T, c_T, c_T, c_T, c_T, c_T, c_T, c_T, c_T, c_T, c_T] [k_c f1_, k_c f6_, k_c f11_, k_c f16_, k_c f18_, k_c fq1_, k_c fq9_, k_c fq11_, k_c fq13_, k_c fq15_, k_c fq17_, k_c fq19_, k_c fq21_, k_c fq23_, k_c fq25_, k_c fq27_] (by kernel_rfl)
  have hq30_ := (if_neg bq29_).symm.trans hq28_
  have bq31_ : r21 = (0 : Int) := by first | exact bq29_ | simpa using bq29_
  obtain ⟨r58, fq32_, hq33_⟩ := pullD_elim hq30_
  replace fq32_ := m_30_ok fq32_
  by_cases bq34_ : r58 = false
  · have hq35_ := (if_pos bq34_).symm.trans hq33_
    obtain rfl := Option.some.inj hq35_
    exact con_pc (op := true) (I := [6]) (sp := law6_sp) 3000 (bF 24 (bT 13 [])) [.one (.bool r0), .one (.bool r1), iD r2, .agg [.list k3 c4, .list k5 c6], .tup [.agg [.list k7 c8, .list k9 c10], iD r11], iD r12, .agg [.list k13 c14, .list k15 c16], .tup [.agg [.list k17 c18, .list k19 c20], iD r21], .agg [.list k22 c23, .list k24 c25], .tup [.agg [.list k26 c27, .list k28 c29], iD r30], .agg [.list k31 c32, .list k33 c34], .tup [.agg [.list k35 c36, .list k37 c38], iD r39], .agg [.list k40 c41, .list k42 c43], .tup [.agg [.list k44 c45, .list k46 c47], iD r48], .agg [.list k49 c50, .list k51 c52], .tup [.agg [.list k53 c54, .list k55 c56], iD r57], .one (.bool r58)] [c_nn b5_, c_nn b10_, c_nn b10_, c_nn b10_, c_nn b10_, c_bn b15_, c_bn b22_, c_bn b22_, c_bn b22_, c_bn b22_, c_bn bq5_, c_bn bq5_, c_bn bq5_, c_bn bq5_, c_bn bq5_, c_bn bq5_, c_bn bq5_, c_bn bq5_, c_bn bq8_, c_bn bq31_, c_bn bq31_, c_bn bq31_, c_bn bq31_, c_bn bq31_, c_no bq34_, c_no bq34_, c_no bq34_, c_T, c_T, c_T, c_T, c_T, c_T, c_T, c_T, c_T, c_T] [k_c f1_, k_c f6_, k_c f11_, k_c f16_, k_c f18_, k_c fq1_, k_c fq9_, k_c fq11_, k_c fq13_, k_c fq15_, k_c fq17_, k_c fq19_, k_c fq21_, k_c fq23_, k_c fq25_, k_c fq27_, k_c fq32_] (by kernel_rfl)
  have hq35_ := (if_neg bq34_).symm.trans hq33_
  have bq36_ : r58 = true := by first | exact bq34_ | simpa using bq34_
  by_cases bq37_ : r30 ≠ (0 : Int)
  · have hq38_ := (if_pos bq37_).symm.trans hq35_
    obtain rfl := Option.some.inj hq38_
    exact con_pc (op := true) (I := [6]) (sp := law6_sp) 3000 (bF 27 (bT 10 [])) [.one (.bool r0), .one (.bool r1), iD r2, .agg [.list k3 c4, .list k5 c6], .tup [.agg [.list k7 c8, .list k9 c10], iD r11], iD r12, .agg [.list k13 c14, .list k15 c16], .tup [.agg [.list k17 c18, .list k19 c20], iD r21], .agg [.list k22 c23, .list k24 c25], .tup [.agg [.list k26 c27, .list k28 c29], iD r30], .agg [.list k31 c32, .list k33 c34], .tup [.agg [.list k35 c36, .list k37 c38], iD r39], .agg [.list k40 c41, .list k42 c43], .tup [.agg [.list k44 c45, .list k46 c47], iD r48], .agg [.list k49 c50, .list k51 c52], .tup [.agg [.list k53 c54, .list k55 c56], iD r57], .one (.bool r58)] [c_nn b5_, c_nn b10_, c_nn b10_, c_nn b10_, c_nn b10_, c_bn b15_, c_bn b22_, c_bn b22_, c_bn b22_, c_bn b22_, c_bn bq5_, c_bn bq5_, c_bn bq5_, c_bn bq5_, c_bn bq5_, c_bn bq5_, c_bn bq5_, c_bn bq5_, c_bn bq8_, c_bn bq31_, c_bn bq31_, c_bn bq31_, c_bn bq31_, c_bn bq31_, c_nn bq36_, c_nn bq36_, c_nn bq36_, c_b bq37_, c_b bq37_, c_b bq37_, c_T, c_T, c_T, c_T, c_T, c_T, c_T] [k_c f1_, k_c f6_, k_c f11_, k_c f16_, k_c f18_, k_c fq1_, k_c fq9_, k_c fq11_, k_c fq13_, k_c fq15_, k_c fq17_, k_c fq19_, k_c fq21_, k_c fq23_, k_c fq25_, k_c fq27_, k_c fq32_] (by kernel_rfl)
  have hq38_ := (if_neg bq37_).symm.trans hq35_
  have bq39_ : r30 = (0 : Int) := by first | exact bq37_ | simpa using bq37_
  by_cases bq40_ : r39 ≠ (0 : Int)
  · have hq41_ := (if_pos bq40_).symm.trans hq38_
    obtain rfl := Option.some.inj hq41_
    exact con_pc (op := true) (I := [6]) (sp := law6_sp) 3000 (bF 30 (bT 7 [])) [.one (.bool r0), .one (.bool r1), iD r2, .agg [.list k3 c4, .list k5 c6], .tup [.agg [.list k7 c8, .list k9 c10], iD r11], iD r12, .agg [.list k13 c14, .list k15 c16], .tup [.agg [.list k17 c18, .list k19 c20], iD r21], .agg [.list k22 c23, .list k24 c25], .tup [.agg [.list k26 c27, .list k28 c29], iD r30], .agg [.list k31 c32, .list k33 c34], .tup [.agg [.list k35 c36, .list k37 c38], iD r39], .agg [.list k40 c41, .list k42 c43], .tup [.agg [.list k44 c45, .list k46 c47], iD r48], .agg [.list k49 c50, .list k51 c52], .tup [.agg [.list k53 c54, .list k55 c56], iD r57], .one (.bool r58)] [c_nn b5_, c_nn b10_, c_nn b10_, c_nn b10_, c_nn b10_, c_bn b15_, c_bn b22_, c_bn b22_, c_bn b22_, c_bn b22_, c_bn bq5_, c_bn bq5_, c_bn bq5_, c_bn bq5_, c_bn bq5_, c_bn bq5_, c_bn bq5_, c_bn bq5_, c_bn bq8_, c_bn bq31_, c_bn bq31_, c_bn bq31_, c_bn bq31_, c_bn bq31_, c_nn bq36_, c_nn bq36_, c_nn bq36_, c_bn bq39_, c_bn bq39_, c_bn bq39_, c_b bq40_, c_b bq40_, c_b bq40_, c_T, c_T, c_T, c_T] [k_c f1_, k_c f6_, k_c f11_, k_c f16_, k_c f18_, k_c fq1_, k_c fq9_, k_c fq11_, k_c fq13_, k_c fq15_, k_c fq17_, k_c fq19_, k_c fq21_, k_c fq23_, k_c fq25_, k_c fq27_, k_c fq32_] (by kernel_rfl)
  have hq41_ := (if_neg bq40_).symm.trans hq38_
  have bq42_ : r39 = (0 : Int) := by first | exact bq40_ | simpa using bq40_
  by_cases bq43_ : r48 ≠ (0 : Int)
  · have hq44_ := (if_pos bq43_).symm.trans hq41_
    obtain rfl := Option.some.inj hq44_
    exact con_pc (op := true) (I := [6]) (sp := law6_sp) 3000 (bF 33 (bT 4 [])) [.one (.bool r0), .one (.bool r1), iD r2, .agg [.list k3 c4, .list k5 c6], .tup [.agg [.list k7 c8, .list k9 c10], iD r11], iD r12, .agg [.list k13 c14, .list k15 c16], .tup [.agg [.list k17 c18, .list k19 c20], iD r21], .agg [.list k22 c23, .list k24 c25], .tup [.agg [.list k26 c27, .list k28 c29], iD r30], .agg [.list k31 c32, .list k33 c34], .tup [.agg [.list k35 c36, .list k37 c38], iD r39], .agg [.list k40 c41, .list k42 c43], .tup [.agg [.list k44 c45, .list k46 c47], iD r48], .agg [.list k49 c50, .list k51 c52], .tup [.agg [.list k53 c54, .list k55 c56], iD r57], .one (.bool r58)] [c_nn b5_, c_nn b10_, c_nn b10_, c_nn b10_, c_nn b10_, c_bn b15_, c_bn b22_, c_bn b22_, c_bn b22_, c_bn b22_, c_bn bq5_, c_bn bq5_, c_bn bq5_, c_bn bq5_, c_bn bq5_, c_bn bq5_, c_bn bq5_, c_bn bq5_, c_bn bq8_, c_bn bq31_, c_bn bq31_, c_bn bq31_, c_bn bq31_, c_bn bq31_, c_nn bq36_, c_nn bq36_, c_nn bq36_, c_bn bq39_, c_bn bq39_, c_bn bq39_, c_bn bq42_, c_bn bq42_, c_bn bq42_, c_b bq43_, c_b bq43_, c_b bq43_, c_T] [k_c f1_, k_c f6_, k_c f11_, k_c f16_, k_c f18_, k_c fq1_, k_c fq9_, k_c fq11_, k_c fq13_, k_c fq15_, k_c fq17_, k_c fq19_, k_c fq21_, k_c fq23_, k_c fq25_, k_c fq27_, k_c fq32_] (by kernel_rfl)
  have hq44_ := (if_neg bq43_).symm.trans hq41_
  have bq45_ : r48 = (0 : Int) := by first | exact bq43_ | simpa using bq43_
  by_cases bq46_ : r57 ≠ (0 : Int)
  · have hq47_ := (if_pos bq46_).symm.trans hq44_
    obtain rfl := Option.some.inj hq47_
    exact con_pc (op := true) (I := [6]) (sp := law6_sp) 3000 (bF 36 (bT 1 [])) [.one (.bool r0), .one (.bool r1), iD r2, .agg [.list k3 c4, .list k5 c6], .tup [.agg [.list k7 c8, .list k9 c10], iD r11], iD r12, .agg [.list k13 c14, .list k15 c16], .tup [.agg [.list k17 c18, .list k19 c20], iD r21], .agg [.list k22 c23, .list k24 c25], .tup [.agg [.list k26 c27, .list k28 c29], iD r30], .agg [.list k31 c32, .list k33 c34], .tup [.agg [.list k35 c36, .list k37 c38], iD r39], .agg [.list k40 c41, .list k42 c43], .tup [.agg [.list k44 c45, .list k46 c47], iD r48], .agg [.list k49 c50, .list k51 c52], .tup [.agg [.list k53 c54, .list k55 c56], iD r57], .one (.bool r58)] [c_nn b5_, c_nn b10_, c_nn b10_, c_nn b10_, c_nn b10_, c_bn b15_, c_bn b22_, c_bn b22_, c_bn b22_, c_bn b22_, c_bn bq5_, c_bn bq5_, c_bn bq5_, c_bn bq5_, c_bn bq5_, c_bn bq5_, c_bn bq5_, c_bn bq5_, c_bn bq8_, c_bn bq31_, c_bn bq31_, c_bn bq31_, c_bn bq31_, c_bn bq31_, c_nn bq36_, c_nn bq36_, c_nn bq36_, c_bn bq39_, c_bn bq39_, c_bn bq39_, c_bn bq42_, c_bn bq42_, c_bn bq42_, c_bn bq45_, c_bn bq45_, c_bn bq45_, c_b bq46_] [k_c f1_, k_c f6_, k_c f11_, k_c f16_, k_c f18_, k_c fq1_, k_c fq9_, k_c fq11_, k_c fq13_, k_c fq15_, k_c fq17_, k_c fq19_, k_c fq21_, k_c fq23_, k_c fq25_, k_c fq27_, k_c fq32_] (by kernel_rfl)
  have hq47_ := (if_neg bq46_).symm.trans hq44_
  have bq48_ : r57 = (0 : Int) := by first | exact bq46_ | simpa using bq46_
  by_cases bq49_ : (k26 : Int) ≠ (ka : Int)
  · have hq50_ := (if_pos bq49_).symm.trans hq47_
    obtain rfl := Option.some.inj hq50_
    exact con_pc (op := true) (I := [6]) (sp := law6_sp) 3000 (bF 37 (bT 23 [])) [.one (.bool r0), .one (.bool r1), iD r2, .agg [.list k3 c4, .list k5 c6], .tup [.agg [.list k7 c8, .list k9 c10], iD r11], iD r12, .agg [.list k13 c14, .list k15 c16], .tup [.agg [.list k17 c18, .list k19 c20], iD r21], .agg [.list k22 c23, .list k24 c25], .tup [.agg [.list k26 c27, .list k28 c29], iD r30], .agg [.list k31 c32, .list k33 c34], .tup [.agg [.list k35 c36, .list k37 c38], iD r39], .agg [.list k40 c41, .list k42 c43], .tup [.agg [.list k44 c45, .list k46 c47], iD r48], .agg [.list k49 c50, .list k51 c52], .tup [.agg [.list k53 c54, .list k55 c56], iD r57], .one (.bool r58)] [c_nn b5_, c_nn b10_, c_nn b10_, c_nn b10_, c_nn b10_, c_bn b15_, c_bn b22_, c_bn b22_, c_bn b22_, c_bn b22_, c_bn bq5_, c_bn bq5_, c_bn bq5_, c_bn bq5_, c_bn bq5_, c_bn bq5_, c_bn bq5_, c_bn bq5_, c_bn bq8_, c_bn bq31_, c_bn bq31_, c_bn bq31_, c_bn bq31_, c_bn bq31_, c_nn bq36_, c_nn bq36_, c_nn bq36_, c_bn bq39_, c_bn bq39_, c_bn bq39_, c_bn bq42_, c_bn bq42_, c_bn bq42_, c_bn bq45_, c_bn bq45_, c_bn bq45_, c_bn bq48_, c_T, c_b bq49_, c_b bq49_, c_b bq49_, c_b bq49_, c_b bq49_, c_b bq49_, c_b bq49_, c_T, c_T, c_T, c_T, c_T, c_T, c_T, c_T, c_T, c_T, c_T, c_T, c_T, c_T, c_T] [k_c f1_, k_c f6_, k_c f11_, k_c f16_, k_c f18_, k_c fq1_, k_c fq9_, k_c fq11_, k_c fq13_, k_c fq15_, k_c fq17_, k_c fq19_, k_c fq21_, k_c fq23_, k_c fq25_, k_c fq27_, k_c fq32_] (by kernel_rfl)
  have hq50_ := (if_neg bq49_).symm.trans hq47_
  have bq51_ : (k26 : Int) = (ka : Int) := by first | exact bq49_ | simpa using bq49_
  by_cases bq52_ : (k35 : Int) ≠ (ka : Int)
  · have hq53_ := (if_pos bq52_).symm.trans hq50_
    obtain rfl := Option.some.inj hq53_
    exact con_pc (op := true) (I := [6]) (sp := law6_sp) 3000 (bF 37 (bT 1 (bF 7 (bT 15 [])))) [.one (.bool r0), .one (.bool r1), iD r2, .agg [.list k3 c4, .list k5 c6], .tup [.agg [.list k7 c8, .list k9 c10], iD r11], iD r12, .agg [.list k13 c14, .list k15 c16], .tup [.agg [.list k17 c18, .list k19 c20], iD r21], .agg [.list k22 c23, .list k24 c25], .tup [.agg [.list k26 c27, .list k28 c29], iD r30], .agg [.list k31 c32, .list k33 c34], .tup [.agg [.list k35 c36, .list k37 c38], iD r39], .agg [.list k40 c41, .list k42 c43], .tup [.agg [.list k44 c45, .list k46 c47], iD r48], .agg [.list k49 c50, .list k51 c52], .tup [.agg [.list k53 c54, .list k55 c56], iD r57], .one (.bool r58)] [c_nn b5_, c_nn b10_, c_nn b10_, c_nn b10_, c_nn b10_, c_bn b15_, c_bn b22_, c_bn b22_, c_bn b22_, c_bn b22_, c_bn bq5_, c_bn bq5_, c_bn bq5_, c_bn bq5_, c_bn bq5_, c_bn bq5_, c_bn bq5_, c_bn bq5_, c_bn bq8_, c_bn bq31_, c_bn bq31_, c_bn bq31_, c_bn bq31_, c_bn bq31_, c_nn bq36_, c_nn bq36_, c_nn bq36_, c_bn bq39_, c_bn bq39_, c_bn bq39_, c_bn bq42_, c_bn bq42_, c_bn bq42_, c_bn bq45_, c_bn bq45_, c_bn bq45_, c_bn bq48_, c_T, c_bn bq51_, c_bn bq51_, c_bn bq51_, c_bn bq51_, c_bn bq51_, c_bn bq51_, c_bn bq51_, c_b bq52_, c_b bq52_, c_b bq52_, c_b bq52_, c_b bq52_, c_b bq52_, c_b bq52_, c_T, c_T, c_T, c_T, c_T, c_T, c_T, c_T] [k_c f1_, k_c f6_, k_c f11_, k_c f16_, k_c f18_, k_c fq1_, k_c fq9_, k_c fq11_, k_c fq13_, k_c fq15_, k_c fq17_, k_c fq19_, k_c fq21_, k_c fq23_, k_c fq25_, k_c fq27_, k_c fq32_] (by kernel_rfl)
  have hq53_ := (if_neg bq52_).symm.trans hq50_
  have bq54_ : (k35 : Int) = (ka : Int) := by first | exact bq52_ | simpa using bq52_
  by_cases bq55_ : (k44 : Int) ≠ (ka : Int)
  · have hq56_ := (if_pos bq55_).symm.trans hq53_
    obtain rfl := Option.some.inj hq56_
    exact con_pc (op := true) (I := [6]) (sp := law6_sp) 3000 (bF 37 (bT 1 (bF 14 (bT 8 [])))) [.one (.bool r0), .one (.bool r1), iD r2, .agg [.list k3 c4, .list k5 c6], .tup [.agg [.list k7 c8, .list k9 c10], iD r11], iD r12, .agg [.list k13 c14, .list k15 c16], .tup [.agg [.list k17 c18, .list k19 c20], iD r21], .agg [.list k22 c23, .list k24 c25], .tup [.agg [.list k26 c27, .list k28 c29], iD r30], .agg [.list k31 c32, .list k33 c34], .tup [.agg [.list k35 c36, .list k37 c38], iD r39], .agg [.list k40 c41, .list k42 c43], .tup [.agg [.list k44 c45, .list k46 c47], iD r48], .agg [.list k49 c50, .list k51 c52], .tup [.agg [.list k53 c54, .list k55 c56], iD r57], .one (.bool r58)] [c_nn b5_, c_nn b10_, c_nn b10_, c_nn b10_, c_nn b10_, c_bn b15_, c_bn b22_, c_bn b22_, c_bn b22_, c_bn b22_, c_bn bq5_, c_bn bq5_, c_bn bq5_, c_bn bq5_, c_bn bq5_, c_bn bq5_, c_bn bq5_, c_bn bq5_, c_bn bq8_, c_bn bq31_, c_bn bq31_, c_bn bq31_, c_bn bq31_, c_bn bq31_, c_nn bq36_, c_nn bq36_, c_nn bq36_, c_bn bq39_, c_bn bq39_, c_bn bq39_, c_bn bq42_, c_bn bq42_, c_bn bq42_, c_bn bq45_, c_bn bq45_, c_bn bq45_, c_bn bq48_, c_T, c_bn bq51_, c_bn bq51_, c_bn bq51_, c_bn bq51_, c_bn bq51_, c_bn bq51_, c_bn bq51_, c_bn bq54_, c_bn bq54_, c_bn bq54_, c_bn bq54_, c_bn bq54_, c_bn bq54_, c_bn bq54_, c_b bq55_, c_b bq55_, c_b bq55_, c_b bq55_, c_b bq55_, c_b bq55_, c_b bq55_, c_T] [k_c f1_, k_c f6_, k_c f11_, k_c f16_, k_c f18_, k_c fq1_, k_c fq9_, k_c fq11_, k_c fq13_, k_c fq15_, k_c fq17_, k_c fq19_, k_c fq21_, k_c fq23_, k_c fq25_, k_c fq27_, k_c fq32_] (by kernel_rfl)
  have hq56_ := (if_neg bq55_).symm.trans hq53_
  have bq57_ : (k44 : Int) = (ka : Int) := by first | exact bq55_ | simpa using bq55_
  by_cases bq58_ : (k53 : Int) ≠ (ka : Int)
  · have hq59_ := (if_pos bq58_).symm.trans hq56_
    obtain rfl := Option.some.inj hq59_
    exact con_pc (op := true) (I := [6]) (sp := law6_sp) 3000 (bF 37 (bT 1 (bF 21 (bT 1 [])))) [.one (.bool r0), .one (.bool r1), iD r2, .agg [.list k3 c4, .list k5 c6], .tup [.agg [.list k7 c8, .list k9 c10], iD r11], iD r12, .agg [.list k13 c14, .list k15 c16], .tup [.agg [.list k17 c18, .list k19 c20], iD r21], .agg [.list k22 c23, .list k24 c25], .tup [.agg [.list k26 c27, .list k28 c29], iD r30], .agg [.list k31 c32, .list k33 c34], .tup [.agg [.list k35 c36, .list k37 c38], iD r39], .agg [.list k40 c41, .list k42 c43], .tup [.agg [.list k44 c45, .list k46 c47], iD r48], .agg [.list k49 c50, .list k51 c52], .tup [.agg [.list k53 c54, .list k55 c56], iD r57], .one (.bool r58)] [c_nn b5_, c_nn b10_, c_nn b10_, c_nn b10_, c_nn b10_, c_bn b15_, c_bn b22_, c_bn b22_, c_bn b22_, c_bn b22_, c_bn bq5_, c_bn bq5_, c_bn bq5_, c_bn bq5_, c_bn bq5_, c_bn bq5_, c_bn bq5_, c_bn bq5_, c_bn bq8_, c_bn bq31_, c_bn bq31_, c_bn bq31_, c_bn bq31_, c_bn bq31_, c_nn bq36_, c_nn bq36_, c_nn bq36_, c_bn bq39_, c_bn bq39_, c_bn bq39_, c_bn bq42_, c_bn bq42_, c_bn bq42_, c_bn bq45_, c_bn bq45_, c_bn bq45_, c_bn bq48_, c_T, c_bn bq51_, c_bn bq51_, c_bn bq51_, c_bn bq51_, c_bn bq51_, c_bn bq51_, c_bn bq51_, c_bn bq54_, c_bn bq54_, c_bn bq54_, c_bn bq54_, c_bn bq54_, c_bn bq54_, c_bn bq54_, c_bn bq57_, c_bn bq57_, c_bn bq57_, c_bn bq57_, c_bn bq57_, c_bn bq57_, c_bn bq57_, c_b bq58_] [k_c f1_, k_c f6_, k_c f11_, k_c f16_, k_c f18_, k_c fq1_, k_c fq9_, k_c fq11_, k_c fq13_, k_c fq15_, k_c fq17_, k_c fq19_, k_c fq21_, k_c fq23_, k_c fq25_, k_c fq27_, k_c fq32_] (by kernel_rfl)
  have hq59_ := (if_neg bq58_).symm.trans hq56_
  have bq60_ : (k53 : Int) = (ka : Int) := by first | exact bq58_ | simpa using bq58_
  obtain ⟨j, ds, eq61_, hq62_⟩ := bindL_elim hq59_
  by_cases jq63_ : j = 0
  · have hq66_ := (if_pos jq63_).symm.trans hq62_
    clear hq62_
    subst jq63_
    obtain ⟨⟨⟩, eq64_, hq67_⟩ := pullD_elim hq66_
    clear hq66_
    obtain rfl := tup_inj eq64_
    have kq65_ := law6_L22_in0 ka ca kb cb n r0 r1 r2 k3 c4 k5 c6 k7 c8 k9 c10 r11 r12 k13 c14 k15 c16 k17 c18 k19 c20 r21 k22 c23 k24 c25 k26 c27 k28 c29 r30 k31 c32 k33 c34 k35 c36 k37 c38 r39 k40 c41 k42 c43 k44 c45 k46 c47 r48 k49 c50 k51 c52 k53 c54 k55 c56 r57 r58 eq61_
    by_cases bq68_ : (k28 : Int) ≠ (ka : Int)
    · have hq69_ := (if_pos bq68_).symm.trans hq67_
      obtain rfl := Option.some.inj hq69_
      exact con_pc (op := true) (I := [6]) (sp := law6_sp) 3000 (bF 37 (bT 1 (bF 22 (bT 23 [])))) [.one (.bool r0), .one (.bool r1), iD r2, .agg [.list k3 c4, .list k5 c6], .tup [.agg [.list k7 c8, .list k9 c10], iD r11], iD r12, .agg [.list k13 c14, .list k15 c16], .tup [.agg [.list k17 c18, .list k19 c20], iD r21], .agg [.list k22 c23, .list k24 c25], .tup [.agg [.list k26 c27, .list k28 c29], iD r30], .agg [.list k31 c32, .list k33 c34], .tup [.agg [.list k35 c36, .list k37 c38], iD r39], .agg [.list k40 c41, .list k42 c43], .tup [.agg [.list k44 c45, .list k46 c47], iD r48], .agg [.list k49 c50, .list k51 c52], .tup [.agg [.list k53 c54, .list k55 c56], iD r57], .one (.bool r58), .tup [iD (Int.ofNat 0)]] [c_nn b5_, c_nn b10_, c_nn b10_, c_nn b10_, c_nn b10_, c_bn b15_, c_bn b22_, c_bn b22_, c_bn b22_, c_bn b22_, c_bn bq5_, c_bn bq5_, c_bn bq5_, c_bn bq5_, c_bn bq5_, c_bn bq5_, c_bn bq5_, c_bn bq5_, c_bn bq8_, c_bn bq31_, c_bn bq31_, c_bn bq31_, c_bn bq31_, c_bn bq31_, c_nn bq36_, c_nn bq36_, c_nn bq36_, c_bn bq39_, c_bn bq39_, c_bn bq39_, c_bn bq42_, c_bn bq42_, c_bn bq42_, c_bn bq45_, c_bn bq45_, c_bn bq45_, c_bn bq48_, c_T, c_bn bq51_, c_bn bq51_, c_bn bq51_, c_bn bq51_, c_bn bq51_, c_bn bq51_, c_bn bq51_, c_bn bq54_, c_bn bq54_, c_bn bq54_, c_bn bq54_, c_bn bq54_, c_bn bq54_, c_bn bq54_, c_bn bq57_, c_bn bq57_, c_bn bq57_, c_bn bq57_, c_bn bq57_, c_bn bq57_, c_bn bq57_, c_bn bq60_, c_T, c_b bq68_, c_b bq68_, c_b bq68_, c_b bq68_, c_b bq68_, c_b bq68_, c_b bq68_, c_T, c_T, c_T, c_T, c_T, c_T, c_T, c_T, c_T, c_T, c_T, c_T, c_T, c_T, c_T] [k_c f1_, k_c f6_, k_c f11_, k_c f16_, k_c f18_, k_c fq1_, k_c fq9_, k_c fq11_, k_c fq13_, k_c fq15_, k_c fq17_, k_c fq19_, k_c fq21_, k_c fq23_, k_c fq25_, k_c fq27_, k_c fq32_, k_l kq65_ (bT 23 []) [.tup [iD (Int.ofNat 0)]] []] (by kernel_rfl)
    have hq69_ := (if_neg bq68_).symm.trans hq67_
    have bq70_ : (k28 : Int) = (ka : Int) := by first | exact bq68_ | simpa using bq68_
    by_cases bq71_ : (k37 : Int) ≠ (ka : Int)
    · have hq72_ := (if_pos bq71_).symm.trans hq69_
      obtain rfl := Option.some.inj hq72_
      exact con_pc (op := true) (I := [6]) (sp := law6_sp) 3000 (bF 37 (bT 1 (bF 22 (bT 1 (bF 7 (bT 15 [])))))) [.one (.bool r0), .one (.bool r1), iD r2, .agg [.list k3 c4, .list k5 c6], .tup [.agg [.list k7 c8, .list k9 c10], iD r11], iD r12, .agg [.list k13 c14, .list k15 c16], .tup [.agg [.list k17 c18, .list k19 c20], iD r21], .agg [.list k22 c23, .list k24 c25], .tup [.agg [.list k26 c27, .list k28 c29], iD r30], .agg [.list k31 c32, .list k33 c34], .tup [.agg [.list k35 c36, .list k37 c38], iD r39], .agg [.list k40 c41, .list k42 c43], .tup [.agg [.list k44 c45, .list k46 c47], iD r48], .agg [.list k49 c50, .list k51 c52], .tup [.agg [.list k53 c54, .list k55 c56], iD r57], .one (.bool r58), .tup [iD (Int.ofNat 0)]] [c_nn b5_, c_nn b10_, c_nn b10_, c_nn b10_, c_nn b10_, c_bn b15_, c_bn b22_, c_bn b22_, c_bn b22_, c_bn b22_, c_bn bq5_, c_bn bq5_, c_bn bq5_, c_bn bq5_, c_bn bq5_, c_bn bq5_, c_bn bq5_, c_bn bq5_, c_bn bq8_, c_bn bq31_, c_bn bq31_, c_bn bq31_, c_bn bq31_, c_bn bq31_, c_nn bq36_, c_nn bq36_, c_nn bq36_, c_bn bq39_, c_bn bq39_, c_bn bq39_, c_bn bq42_, c_bn bq42_, c_bn bq42_, c_bn bq45_, c_bn bq45_, c_bn bq45_, c_bn bq48_, c_T, c_bn bq51_, c_bn bq51_, c_bn bq51_, c_bn bq51_, c_bn bq51_, c_bn bq51_, c_bn bq51_, c_bn bq54_, c_bn bq54_, c_bn bq54_, c_bn bq54_, c_bn bq54_, c_bn bq54_, c_bn bq54_, c_bn bq57_, c_bn bq57_, c_bn bq57_, c_bn bq57_, c_bn bq57_, c_bn bq57_, c_bn bq57_, c_bn bq60_, c_T, c_bn bq70_, c_bn bq70_, c_bn bq70_, c_bn bq70_, c_bn bq70_, c_bn bq70_, c_bn bq70_, c_b bq71_, c_b bq71_, c_b bq71_, c_b bq71_, c_b bq71_, c_b bq71_, c_b bq71_, c_T, c_T, c_T, c_T, c_T, c_T, c_T, c_T] [k_c f1_, k_c f6_, k_c f11_, k_c f16_, k_c f18_, k_c fq1_, k_c fq9_, k_c fq11_, k_c fq13_, k_c fq15_, k_c fq17_, k_c fq19_, k_c fq21_, k_c fq23_, k_c fq25_, k_c fq27_, k_c fq32_, k_l kq65_ (bT 1 (bF 7 (bT 15 []))) [.tup [iD (Int.ofNat 0)]] []] (by kernel_rfl)
    have hq72_ := (if_neg bq71_).symm.trans hq69_
    have bq73_ : (k37 : Int) = (ka : Int) := by first | exact bq71_ | simpa using bq71_
    by_cases bq74_ : (k46 : Int) ≠ (ka : Int)
    · have hq75_ := (if_pos bq74_).symm.trans hq72_
      obtain rfl := Option.some.inj hq75_
      exact con_pc (op := true) (I := [6]) (sp := law6_sp) 3000 (bF 37 (bT 1 (bF 22 (bT 1 (bF 14 (bT 8 [])))))) [.one (.bool r0), .one (.bool r1), iD r2, .agg [.list k3 c4, .list k5 c6], .tup [.agg [.list k7 c8, .list k9 c10], iD r11], iD r12, .agg [.list k13 c14, .list k15 c16], .tup [.agg [.list k17 c18, .list k19 c20], iD r21], .agg [.list k22 c23, .list k24 c25], .tup [.agg [.list k26 c27, .list k28 c29], iD r30], .agg [.list k31 c32, .list k33 c34], .tup [.agg [.list k35 c36, .list k37 c38], iD r39], .agg [.list k40 c41, .list k42 c43], .tup [.agg [.list k44 c45, .list k46 c47], iD r48], .agg [.list k49 c50, .list k51 c52], .tup [.agg [.list k53 c54, .list k55 c56], iD r57], .one (.bool r58), .tup [iD (Int.ofNat 0)]] [c_nn b5_, c_nn b10_, c_nn b10_, c_nn b10_, c_nn b10_, c_bn b15_, c_bn b22_, c_bn b22_, c_bn b22_, c_bn b22_, c_bn bq5_, c_bn bq5_, c_bn bq5_, c_bn bq5_, c_bn bq5_, c_bn bq5_, c_bn bq5_, c_bn bq5_, c_bn bq8_, c_bn bq31_, c_bn bq31_, c_bn bq31_, c_bn bq31_, c_bn bq31_, c_nn bq36_, c_nn bq36_, c_nn bq36_, c_bn bq39_, c_bn bq39_, c_bn bq39_, c_bn bq42_, c_bn bq42_, c_bn bq42_, c_bn bq45_, c_bn bq45_, c_bn bq45_, c_bn bq48_, c_T, c_bn bq51_, c_bn bq51_, c_bn bq51_, c_bn bq51_, c_bn bq51_, c_bn bq51_, c_bn bq51_, c_bn bq54_, c_bn bq54_, c_bn bq54_, c_bn bq54_, c_bn bq54_, c_bn bq54_, c_bn bq54_, c_bn bq57_, c_bn bq57_, c_bn bq57_, c_bn bq57_, c_bn bq57_, c_bn bq57_, c_bn bq57_, c_bn bq60_, c_T, c_bn bq70_, c_bn bq70_, c_bn bq70_, c_bn bq70_, c_bn bq70_, c_bn bq70_, c_bn bq70_, c_bn bq73_, c_bn bq73_, c_bn bq73_, c_bn bq73_, c_bn bq73_, c_bn bq73_, c_bn bq73_, c_b bq74_, c_b bq74_, c_b bq74_, c_b bq74_, c_b bq74_, c_b bq74_, c_b bq74_, c_T] [k_c f1_, k_c f6_, k_c f11_, k_c f16_, k_c f18_, k_c fq1_, k_c fq9_, k_c fq11_, k_c fq13_, k_c fq15_, k_c fq17_, k_c fq19_, k_c fq21_, k_c fq23_, k_c fq25_, k_c fq27_, k_c fq32_, k_l kq65_ (bT 1 (bF 14 (bT 8 []))) [.tup [iD (Int.ofNat 0)]] []] (by kernel_rfl)
    have hq75_ := (if_neg bq74_).symm.trans hq72_
    have bq76_ : (k46 : Int) = (ka : Int) := by first | exact bq74_ | simpa using bq74_
    by_cases bq77_ : (k55 : Int) ≠ (ka : Int)
    · have hq78_ := (if_pos bq77_).symm.trans hq75_
      obtain rfl := Option.some.inj hq78_
      exact con_pc (op := true) (I := [6]) (sp := law6_sp) 3000 (bF 37 (bT 1 (bF 22 (bT 1 (bF 21 (bT 1 [])))))) [.one (.bool r0), .one (.bool r1), iD r2, .agg [.list k3 c4, .list k5 c6], .tup [.agg [.list k7 c8, .list k9 c10], iD r11], iD r12, .agg [.list k13 c14, .list k15 c16], .tup [.agg [.list k17 c18, .list k19 c20], iD r21], .agg [.list k22 c23, .list k24 c25], .tup [.agg [.list k26 c27, .list k28 c29], iD r30], .agg [.list k31 c32, .list k33 c34], .tup [.agg [.list k35 c36, .list k37 c38], iD r39], .agg [.list k40 c41, .list k42 c43], .tup [.agg [.list k44 c45, .list k46 c47], iD r48], .agg [.list k49 c50, .list k51 c52], .tup [.agg [.list k53 c54, .list k55 c56], iD r57], .one (.bool r58), .tup [iD (Int.ofNat 0)]] [c_nn b5_, c_nn b10_, c_nn b10_, c_nn b10_, c_nn b10_, c_bn b15_, c_bn b22_, c_bn b22_, c_bn b22_, c_bn b22_, c_bn bq5_, c_bn bq5_, c_bn bq5_, c_bn bq5_, c_bn bq5_, c_bn bq5_, c_bn bq5_, c_bn bq5_, c_bn bq8_, c_bn bq31_, c_bn bq31_, c_bn bq31_, c_bn bq31_, c_bn bq31_, c_nn bq36_, c_nn bq36_, c_nn bq36_, c_bn bq39_, c_bn bq39_, c_bn bq39_, c_bn bq42_, c_bn bq42_, c_bn bq42_, c_bn bq45_, c_bn bq45_, c_bn bq45_, c_bn bq48_, c_T, c_bn bq51_, c_bn bq51_, c_bn bq51_, c_bn bq51_, c_bn bq51_, c_bn bq51_, c_bn bq51_, c_bn bq54_, c_bn bq54_, c_bn bq54_, c_bn bq54_, c_bn bq54_, c_bn bq54_, c_bn bq54_, c_bn bq57_, c_bn bq57_, c_bn bq57_, c_bn bq57_, c_bn bq57_, c_bn bq57_, c_bn bq57_, c_bn bq60_, c_T, c_bn bq70_, c_bn bq70_, c_bn bq70_, c_bn bq70_, c_bn bq70_, c_bn bq70_, c_bn bq70_, c_bn bq73_, c_bn bq73_, c_bn bq73_, c_bn bq73_, c_bn bq73_, c_bn bq73_, c_bn bq73_, c_bn bq76_, c_bn bq76_, c_bn bq76_, c_bn bq76_, c_bn bq76_, c_bn bq76_, c_bn bq76_, c_b bq77_] [k_c f1_, k_c f6_, k_c f11_, k_c f16_, k_c f18_, k_c fq1_, k_c fq9_, k_c fq11_, k_c fq13_, k_c fq15_, k_c fq17_, k_c fq19_, k_c fq21_, k_c fq23_, k_c fq25_, k_c fq27_, k_c fq32_, k_l kq65_ (bT 1 (bF 21 (bT 1 []))) [.tup [iD (Int.ofNat 0)]] []] (by kernel_rfl)
    have hq78_ := (if_neg bq77_).symm.trans hq75_
    have bq79_ : (k55 : Int) = (ka : Int) := by first | exact bq77_ | simpa using bq77_
    obtain ⟨j, ds, eq80_, hq81_⟩ := bindL_elim hq78_
    by_cases jq82_ : j = 0
    · have hq85_ := (if_pos jq82_).symm.trans hq81_
      clear hq81_
      subst jq82_
      obtain ⟨⟨⟩, eq83_, hq86_⟩ := pullD_elim hq85_
      clear hq85_
      obtain rfl := tup_inj eq83_
      have kq84_ := law6_L22_1_in0 ka ca kb cb n r0 r1 r2 k3 c4 k5 c6 k7 c8 k9 c10 r11 r12 k13 c14 k15 c16 k17 c18 k19 c20 r21 k22 c23 k24 c25 k26 c27 k28 c29 r30 k31 c32 k33 c34 k35 c36 k37 c38 r39 k40 c41 k42 c43 k44 c45 k46 c47 r48 k49 c50 k51 c52 k53 c54 k55 c56 r57 r58 eq80_
      obtain ⟨r59, fq87_, hq88_⟩ := pullD_elim hq86_
      replace fq87_ := m_32_ok fq87_
      by_cases bq89_ : r59 ≠ (0 : Int)
      · have hq90_ := (if_pos bq89_).symm.trans hq88_
        obtain rfl := Option.some.inj hq90_
        exact con_pc (op := true) (I := [6]) (sp := law6_sp) 3000 (bF 37 (bT 1 (bF 22 (bT 1 (bF 23 (bT 1 [])))))) [.one (.bool r0), .one (.bool r1), iD r2, .agg [.list k3 c4, .list k5 c6], .tup [.agg [.list k7 c8, .list k9 c10], iD r11], iD r12, .agg [.list k13 c14, .list k15 c16], .tup [.agg [.list k17 c18, .list k19 c20], iD r21], .agg [.list k22 c23, .list k24 c25], .tup [.agg [.list k26 c27, .list k28 c29], iD r30], .agg [.list k31 c32, .list k33 c34], .tup [.agg [.list k35 c36, .list k37 c38], iD r39], .agg [.list k40 c41, .list k42 c43], .tup [.agg [.list k44 c45, .list k46 c47], iD r48], .agg [.list k49 c50, .list k51 c52], .tup [.agg [.list k53 c54, .list k55 c56], iD r57], .one (.bool r58), .tup [iD (Int.ofNat 0)], .tup [iD (Int.ofNat 0)], iD r59] [c_nn b5_, c_nn b10_, c_nn b10_, c_nn b10_, c_nn b10_, c_bn b15_, c_bn b22_, c_bn b22_, c_bn b22_, c_bn b22_, c_bn bq5_, c_bn bq5_, c_bn bq5_, c_bn bq5_, c_bn bq5_, c_bn bq5_, c_bn bq5_, c_bn bq5_, c_bn bq8_, c_bn bq31_, c_bn bq31_, c_bn bq31_, c_bn bq31_, c_bn bq31_, c_nn bq36_, c_nn bq36_, c_nn bq36_, c_bn bq39_, c_bn bq39_, c_bn bq39_, c_bn bq42_, c_bn bq42_, c_bn bq42_, c_bn bq45_, c_bn bq45_, c_bn bq45_, c_bn bq48_, c_T, c_bn bq51_, c_bn bq51_, c_bn bq51_, c_bn bq51_, c_bn bq51_, c_bn bq51_, c_bn bq51_, c_bn bq54_, c_bn bq54_, c_bn bq54_, c_bn bq54_, c_bn bq54_, c_bn bq54_, c_bn bq54_, c_bn bq57_, c_bn bq57_, c_bn bq57_, c_bn bq57_, c_bn bq57_, c_bn bq57_, c_bn bq57_, c_bn bq60_, c_T, c_bn bq70_, c_bn bq70_, c_bn bq70_, c_bn bq70_, c_bn bq70_, c_bn bq70_, c_bn bq70_, c_bn bq73_, c_bn bq73_, c_bn bq73_, c_bn bq73_, c_bn bq73_, c_bn bq73_, c_bn bq73_, c_bn bq76_, c_bn bq76_, c_bn bq76_, c_bn bq76_, c_bn bq76_, c_bn bq76_, c_bn bq76_, c_bn bq79_, c_F, c_b bq89_] [k_c f1_, k_c f6_, k_c f11_, k_c f16_, k_c f18_, k_c fq1_, k_c fq9_, k_c fq11_, k_c fq13_, k_c fq15_, k_c fq17_, k_c fq19_, k_c fq21_, k_c fq23_, k_c fq25_, k_c fq27_, k_c fq32_, k_l kq65_ (bT 1 (bF 23 (bT 1 []))) [.tup [iD (Int.ofNat 0)], .tup [iD (Int.ofNat 0)], iD r59] [.tup [iD (Int.ofNat 0)], iD r59], k_l kq84_ (bF 1 (bT 1 [])) [.tup [iD (Int.ofNat 0)], iD r59] [iD r59], k_c fq87_] (by kernel_rfl)
      have hq90_ := (if_neg bq89_).symm.trans hq88_
      have bq91_ : r59 = (0 : Int) := by first | exact bq89_ | simpa using bq89_
      obtain ⟨⟨k60, c61, k62, c63⟩, fq92_, hq93_⟩ := pullD_elim hq90_
      replace fq92_ := m_11_ok fq92_
      obtain ⟨⟨k64, c65, k66, c67, r68⟩, fq94_, hq95_⟩ := pullD_elim hq93_
      replace fq94_ := m_27_ok fq94_
      obtain ⟨⟨k69, c70, k71, c72, r73⟩, fq96_, hq97_⟩ := pullD_elim hq95_
      replace fq96_ := m_27_ok fq96_
      by_cases bq98_ : r68 ≠ (0 : Int)
      · have hq99_ := (if_pos bq98_).symm.trans hq97_
        obtain rfl := Option.some.inj hq99_
        exact con_pc (op := true) (I := [6]) (sp := law6_sp) 3000 (bF 37 (bT 1 (bF 22 (bT 1 (bF 24 (bT 8 [])))))) [.one (.bool r0), .one (.bool r1), iD r2, .agg [.list k3 c4, .list k5 c6], .tup [.agg [.list k7 c8, .list k9 c10], iD r11], iD r12, .agg [.list k13 c14, .list k15 c16], .tup [.agg [.list k17 c18, .list k19 c20], iD r21], .agg [.list k22 c23, .list k24 c25], .tup [.agg [.list k26 c27, .list k28 c29], iD r30], .agg [.list k31 c32, .list k33 c34], .tup [.agg [.list k35 c36, .list k37 c38], iD r39], .agg [.list k40 c41, .list k42 c43], .tup [.agg [.list k44 c45, .list k46 c47], iD r48], .agg [.list k49 c50, .list k51 c52], .tup [.agg [.list k53 c54, .list k55 c56], iD r57], .one (.bool r58), .tup [iD (Int.ofNat 0)], .tup [iD (Int.ofNat 0)], iD r59, .agg [.list k60 c61, .list k62 c63], .tup [.agg [.list k64 c65, .list k66 c67], iD r68], .tup [.agg [.list k69 c70, .list k71 c72], iD r73]] [c_nn b5_, c_nn b10_, c_nn b10_, c_nn b10_, c_nn b10_, c_bn b15_, c_bn b22_, c_bn b22_, c_bn b22_, c_bn b22_, c_bn bq5_, c_bn bq5_, c_bn bq5_, c_bn bq5_, c_bn bq5_, c_bn bq5_, c_bn bq5_, c_bn bq5_, c_bn bq8_, c_bn bq31_, c_bn bq31_, c_bn bq31_, c_bn bq31_, c_bn bq31_, c_nn bq36_, c_nn bq36_, c_nn bq36_, c_bn bq39_, c_bn bq39_, c_bn bq39_, c_bn bq42_, c_bn bq42_, c_bn bq42_, c_bn bq45_, c_bn bq45_, c_bn bq45_, c_bn bq48_, c_T, c_bn bq51_, c_bn bq51_, c_bn bq51_, c_bn bq51_, c_bn bq51_, c_bn bq51_, c_bn bq51_, c_bn bq54_, c_bn bq54_, c_bn bq54_, c_bn bq54_, c_bn bq54_, c_bn bq54_, c_bn bq54_, c_bn bq57_, c_bn bq57_, c_bn bq57_, c_bn bq57_, c_bn bq57_, c_bn bq57_, c_bn bq57_, c_bn bq60_, c_T, c_bn bq70_, c_bn bq70_, c_bn bq70_, c_bn bq70_, c_bn bq70_, c_bn bq70_, c_bn bq70_, c_bn bq73_, c_bn bq73_, c_bn bq73_, c_bn bq73_, c_bn bq73_, c_bn bq73_, c_bn bq73_, c_bn bq76_, c_bn bq76_, c_bn bq76_, c_bn bq76_, c_bn bq76_, c_bn bq76_, c_bn bq76_, c_bn bq79_, c_F, c_bn bq91_, c_b bq98_, c_b bq98_, c_b bq98_, c_T, c_T, c_T, c_T, c_T] [k_c f1_, k_c f6_, k_c f11_, k_c f16_, k_c f18_, k_c fq1_, k_c fq9_, k_c fq11_, k_c fq13_, k_c fq15_, k_c fq17_, k_c fq19_, k_c fq21_, k_c fq23_, k_c fq25_, k_c fq27_, k_c fq32_, k_l kq65_ (bT 1 (bF 24 (bT 8 []))) [.tup [iD (Int.ofNat 0)], .tup [iD (Int.ofNat 0)], iD r59, .agg [.list k60 c61, .list k62 c63], .tup [.agg [.list k64 c65, .list k66 c67], iD r68], .tup [.agg [.list k69 c70, .list k71 c72], iD r73]] [.tup [iD (Int.ofNat 0)], iD r59, .agg [.list k60 c61, .list k62 c63], .tup [.agg [.list k64 c65, .list k66 c67], iD r68], .tup [.agg [.list k69 c70, .list k71 c72], iD r73]], k_l kq84_ (bF 2 (bT 8 [])) [.tup [iD (Int.ofNat 0)], iD r59, .agg [.list k60 c61, .list k62 c63], .tup [.agg [.list k64 c65, .list k66 c67], iD r68], .tup [.agg [.list k69 c70, .list k71 c72], iD r73]] [iD r59, .agg [.list k60 c61, .list k62 c63], .tup [.agg [.list k64 c65, .list k66 c67], iD r68], .tup [.agg [.list k69 c70, .list k71 c72], iD r73]], k_c fq87_, k_c fq92_, k_c fq94_, k_c fq96_] (by kernel_rfl)
      have hq99_ := (if_neg bq98_).symm.trans hq97_
      have bq100_ : r68 = (0 : Int) := by first | exact bq98_ | simpa using bq98_
      by_cases bq101_ : r73 ≠ (0 : Int)
      · have hq102_ := (if_pos bq101_).symm.trans hq99_
        obtain rfl := Option.some.inj hq102_
        exact con_pc (op := true) (I := [6]) (sp := law6_sp) 3000 (bF 37 (bT 1 (bF 22 (bT 1 (bF 27 (bT 5 [])))))) [.one (.bool r0), .one (.bool r1), iD r2, .agg [.list k3 c4, .list k5 c6], .tup [.agg [.list k7 c8, .list k9 c10], iD r11], iD r12, .agg [.list k13 c14, .list k15 c16], .tup [.agg [.list k17 c18, .list k19 c20], iD r21], .agg [.list k22 c23, .list k24 c25], .tup [.agg [.list k26 c27, .list k28 c29], iD r30], .agg [.list k31 c32, .list k33 c34], .tup [.agg [.list k35 c36, .list k37 c38], iD r39], .agg [.list k40 c41, .list k42 c43], .tup [.agg [.list k44 c45, .list k46 c47], iD r48], .agg [.list k49 c50, .list k51 c52], .tup [.agg [.list k53 c54, .list k55 c56], iD r57], .one (.bool r58), .tup [iD (Int.ofNat 0)], .tup [iD (Int.ofNat 0)], iD r59, .agg [.list k60 c61, .list k62 c63], .tup [.agg [.list k64 c65, .list k66 c67], iD r68], .tup [.agg [.list k69 c70, .list k71 c72], iD r73]] [c_nn b5_, c_nn b10_, c_nn b10_, c_nn b10_, c_nn b10_, c_bn b15_, c_bn b22_, c_bn b22_, c_bn b22_, c_bn b22_, c_bn bq5_, c_bn bq5_, c_bn bq5_, c_bn bq5_, c_bn bq5_, c_bn bq5_, c_bn bq5_, c_bn bq5_, c_bn bq8_, c_bn bq31_, c_bn bq31_, c_bn bq31_, c_bn bq31_, c_bn bq31_, c_nn bq36_, c_nn bq36_, c_nn bq36_, c_bn bq39_, c_bn bq39_, c_bn bq39_, c_bn bq42_, c_bn bq42_, c_bn bq42_, c_bn bq45_, c_bn bq45_, c_bn bq45_, c_bn bq48_, c_T, c_bn bq51_, c_bn bq51_, c_bn bq51_, c_bn bq51_, c_bn bq51_, c_bn bq51_, c_bn bq51_, c_bn bq54_, c_bn bq54_, c_bn bq54_, c_bn bq54_, c_bn bq54_, c_bn bq54_, c_bn bq54_, c_bn bq57_, c_bn bq57_, c_bn bq57_, c_bn bq57_, c_bn bq57_, c_bn bq57_, c_bn bq57_, c_bn bq60_, c_T, c_bn bq70_, c_bn bq70_, c_bn bq70_, c_bn bq70_, c_bn bq70_, c_bn bq70_, c_bn bq70_, c_bn bq73_, c_bn bq73_, c_bn bq73_, c_bn bq73_, c_bn bq73_, c_bn bq73_, c_bn bq73_, c_bn bq76_, c_bn bq76_, c_bn bq76_, c_bn bq76_, c_bn bq76_, c_bn bq76_, c_bn bq76_, c_bn bq79_, c_F, c_bn bq91_, c_bn bq100_, c_bn bq100_, c_bn bq100_, c_b bq101_, c_b bq101_, c_b bq101_, c_b bq101_, c_T] [k_c f1_, k_c f6_, k_c f11_, k_c f16_, k_c f18_, k_c fq1_, k_c fq9_, k_c fq11_, k_c fq13_, k_c fq15_, k_c fq17_, k_c fq19_, k_c fq21_, k_c fq23_, k_c fq25_, k_c fq27_, k_c fq32_, k_l kq65_ (bT 1 (bF 27 (bT 5 []))) [.tup [iD (Int.ofNat 0)], .tup [iD (Int.ofNat 0)], iD r59, .agg [.list k60 c61, .list k62 c63], .tup [.agg [.list k64 c65, .list k66 c67], iD r68], .tup [.agg [.list k69 c70, .list k71 c72], iD r73]] [.tup [iD (Int.ofNat 0)], iD r59, .agg [.list k60 c61, .list k62 c63], .tup [.agg [.list k64 c65, .list k66 c67], iD r68], .tup [.agg [.list k69 c70, .list k71 c72], iD r73]], k_l kq84_ (bF 5 (bT 5 [])) [.tup [iD (Int.ofNat 0)], iD r59, .agg [.list k60 c61, .list k62 c63], .tup [.agg [.list k64 c65, .list k66 c67], iD r68], .tup [.agg [.list k69 c70, .list k71 c72], iD r73]] [iD r59, .agg [.list k60 c61, .list k62 c63], .tup [.agg [.list k64 c65, .list k66 c67], iD r68], .tup [.agg [.list k69 c70, .list k71 c72], iD r73]], k_c fq87_, k_c fq92_, k_c fq94_, k_c fq96_] (by kernel_rfl)
      have hq102_ := (if_neg bq101_).symm.trans hq99_
      have bq103_ : r73 = (0 : Int) := by first | exact bq101_ | simpa using bq101_
      obtain ⟨r74, fq104_, hq105_⟩ := pullD_elim hq102_
      replace fq104_ := m_16_ok fq104_
      by_cases bq106_ : r74 ≠ (0 : Int)
      · have hq107_ := (if_pos bq106_).symm.trans hq105_
        obtain rfl := Option.some.inj hq107_
        exact con_pc (op := true) (I := [6]) (sp := law6_sp) 3000 (bF 37 (bT 1 (bF 22 (bT 1 (bF 31 (bT 1 [])))))) [.one (.bool r0), .one (.bool r1), iD r2, .agg [.list k3 c4, .list k5 c6], .tup [.agg [.list k7 c8, .list k9 c10], iD r11], iD r12, .agg [.list k13 c14, .list k15 c16], .tup [.agg [.list k17 c18, .list k19 c20], iD r21], .agg [.list k22 c23, .list k24 c25], .tup [.agg [.list k26 c27, .list k28 c29], iD r30], .agg [.list k31 c32, .list k33 c34], .tup [.agg [.list k35 c36, .list k37 c38], iD r39], .agg [.list k40 c41, .list k42 c43], .tup [.agg [.list k44 c45, .list k46 c47], iD r48], .agg [.list k49 c50, .list k51 c52], .tup [.agg [.list k53 c54, .list k55 c56], iD r57], .one (.bool r58), .tup [iD (Int.ofNat 0)], .tup [iD (Int.ofNat 0)], iD r59, .agg [.list k60 c61, .list k62 c63], .tup [.agg [.list k64 c65, .list k66 c67], iD r68], .tup [.agg [.list k69 c70, .list k71 c72], iD r73], iD r74] [c_nn b5_, c_nn b10_, c_nn b10_, c_nn b10_, c_nn b10_, c_bn b15_, c_bn b22_, c_bn b22_, c_bn b22_, c_bn b22_, c_bn bq5_, c_bn bq5_, c_bn bq5_, c_bn bq5_, c_bn bq5_, c_bn bq5_, c_bn bq5_, c_bn bq5_, c_bn bq8_, c_bn bq31_, c_bn bq31_, c_bn bq31_, c_bn bq31_, c_bn bq31_, c_nn bq36_, c_nn bq36_, c_nn bq36_, c_bn bq39_, c_bn bq39_, c_bn bq39_, c_bn bq42_, c_bn bq42_, c_bn bq42_, c_bn bq45_, c_bn bq45_, c_bn bq45_, c_bn bq48_, c_T, c_bn bq51_, c_bn bq51_, c_bn bq51_, c_bn bq51_, c_bn bq51_, c_bn bq51_, c_bn bq51_, c_bn bq54_, c_bn bq54_, c_bn bq54_, c_bn bq54_, c_bn bq54_, c_bn bq54_, c_bn bq54_, c_bn bq57_, c_bn bq57_, c_bn bq57_, c_bn bq57_, c_bn bq57_, c_bn bq57_, c_bn bq57_, c_bn bq60_, c_T, c_bn bq70_, c_bn bq70_, c_bn bq70_, c_bn bq70_, c_bn bq70_, c_bn bq70_, c_bn bq70_, c_bn bq73_, c_bn bq73_, c_bn bq73_, c_bn bq73_, c_bn bq73_, c_bn bq73_, c_bn bq73_, c_bn bq76_, c_bn bq76_, c_bn bq76_, c_bn bq76_, c_bn bq76_, c_bn bq76_, c_bn bq76_, c_bn bq79_, c_F, c_bn bq91_, c_bn bq100_, c_bn bq100_, c_bn bq100_, c_bn bq103_, c_bn bq103_, c_bn bq103_, c_bn bq103_, c_b bq106_] [k_c f1_, k_c f6_, k_c f11_, k_c f16_, k_c f18_, k_c fq1_, k_c fq9_, k_c fq11_, k_c fq13_, k_c fq15_, k_c fq17_, k_c fq19_, k_c fq21_, k_c fq23_, k_c fq25_, k_c fq27_, k_c fq32_, k_l kq65_ (bT 1 (bF 31 (bT 1 []))) [.tup [iD (Int.ofNat 0)], .tup [iD (Int.ofNat 0)], iD r59, .agg [.list k60 c61, .list k62 c63], .tup [.agg [.list k64 c65, .list k66 c67], iD r68], .tup [.agg [.list k69 c70, .list k71 c72], iD r73], iD r74] [.tup [iD (Int.ofNat 0)], iD r59, .agg [.list k60 c61, .list k62 c63], .tup [.agg [.list k64 c65, .list k66 c67], iD r68], .tup [.agg [.list k69 c70, .list k71 c72], iD r73], iD r74], k_l kq84_ (bF 9 (bT 1 [])) [.tup [iD (Int.ofNat 0)], iD r59, .agg [.list k60 c61, .list k62 c63], .tup [.agg [.list k64 c65, .list k66 c67], iD r68], .tup [.agg [.list k69 c70, .list k71 c72], iD r73], iD r74] [iD r59, .agg [.list k60 c61, .list k62 c63], .tup [.agg [.list k64 c65, .list k66 c67], iD r68], .tup [.agg [.list k69 c70, .list k71 c72], iD r73], iD r74], k_c fq87_, k_c fq92_, k_c fq94_, k_c fq96_, k_c fq104_] (by kernel_rfl)
      have hq107_ := (if_neg bq106_).symm.trans hq105_
      have bq108_ : r74 = (0 : Int) := by first | exact bq106_ | simpa using bq106_
      obtain ⟨⟨k75, c76, k77, c78, r79⟩, fq109_, hq110_⟩ := pullD_elim hq107_
      replace fq109_ := m_28_ok fq109_
      by_cases bq111_ : r79 = (0 : Int)
      · have hq112_ := (if_pos bq111_).symm.trans hq110_
        obtain ⟨r80, fq113_, hq114_⟩ := pullD_elim hq112_
        replace fq113_ := m_30_ok fq113_
        obtain rfl := Option.some.inj hq114_
        exact con_pc (op := true) (I := [6]) (sp := law6_sp) 3000 (bF 37 (bT 1 (bF 22 (bT 1 (bF 32 (bT 4 [])))))) [.one (.bool r0), .one (.bool r1), iD r2, .agg [.list k3 c4, .list k5 c6], .tup [.agg [.list k7 c8, .list k9 c10], iD r11], iD r12, .agg [.list k13 c14, .list k15 c16], .tup [.agg [.list k17 c18, .list k19 c20], iD r21], .agg [.list k22 c23, .list k24 c25], .tup [.agg [.list k26 c27, .list k28 c29], iD r30], .agg [.list k31 c32, .list k33 c34], .tup [.agg [.list k35 c36, .list k37 c38], iD r39], .agg [.list k40 c41, .list k42 c43], .tup [.agg [.list k44 c45, .list k46 c47], iD r48], .agg [.list k49 c50, .list k51 c52], .tup [.agg [.list k53 c54, .list k55 c56], iD r57], .one (.bool r58), .tup [iD (Int.ofNat 0)], .tup [iD (Int.ofNat 0)], iD r59, .agg [.list k60 c61, .list k62 c63], .tup [.agg [.list k64 c65, .list k66 c67], iD r68], .tup [.agg [.list k69 c70, .list k71 c72], iD r73], iD r74, .tup [.agg [.list k75 c76, .list k77 c78], iD r79], .one (.bool r80)] [c_nn b5_, c_nn b10_, c_nn b10_, c_nn b10_, c_nn b10_, c_bn b15_, c_bn b22_, c_bn b22_, c_bn b22_, c_bn b22_, c_bn bq5_, c_bn bq5_, c_bn bq5_, c_bn bq5_, c_bn bq5_, c_bn bq5_, c_bn bq5_, c_bn bq5_, c_bn bq8_, c_bn bq31_, c_bn bq31_, c_bn bq31_, c_bn bq31_, c_bn bq31_, c_nn bq36_, c_nn bq36_, c_nn bq36_, c_bn bq39_, c_bn bq39_, c_bn bq39_, c_bn bq42_, c_bn bq42_, c_bn bq42_, c_bn bq45_, c_bn bq45_, c_bn bq45_, c_bn bq48_, c_T, c_bn bq51_, c_bn bq51_, c_bn bq51_, c_bn bq51_, c_bn bq51_, c_bn bq51_, c_bn bq51_, c_bn bq54_, c_bn bq54_, c_bn bq54_, c_bn bq54_, c_bn bq54_, c_bn bq54_, c_bn bq54_, c_bn bq57_, c_bn bq57_, c_bn bq57_, c_bn bq57_, c_bn bq57_, c_bn bq57_, c_bn bq57_, c_bn bq60_, c_T, c_bn bq70_, c_bn bq70_, c_bn bq70_, c_bn bq70_, c_bn bq70_, c_bn bq70_, c_bn bq70_, c_bn bq73_, c_bn bq73_, c_bn bq73_, c_bn bq73_, c_bn bq73_, c_bn bq73_, c_bn bq73_, c_bn bq76_, c_bn bq76_, c_bn bq76_, c_bn bq76_, c_bn bq76_, c_bn bq76_, c_bn bq76_, c_bn bq79_, c_F, c_bn bq91_, c_bn bq100_, c_bn bq100_, c_bn bq100_, c_bn bq103_, c_bn bq103_, c_bn bq103_, c_bn bq103_, c_bn bq108_, c_e bq111_, c_e bq111_, c_e bq111_, c_e bq111_] [k_c f1_, k_c f6_, k_c f11_, k_c f16_, k_c f18_, k_c fq1_, k_c fq9_, k_c fq11_, k_c fq13_, k_c fq15_, k_c fq17_, k_c fq19_, k_c fq21_, k_c fq23_, k_c fq25_, k_c fq27_, k_c fq32_, k_l kq65_ (bT 1 (bF 32 (bT 4 []))) [.tup [iD (Int.ofNat 0)], .tup [iD (Int.ofNat 0)], iD r59, .agg [.list k60 c61, .list k62 c63], .tup [.agg [.list k64 c65, .list k66 c67], iD r68], .tup [.agg [.list k69 c70, .list k71 c72], iD r73], iD r74, .tup [.agg [.list k75 c76, .list k77 c78], iD r79], .one (.bool r80)] [.tup [iD (Int.ofNat 0)], iD r59, .agg [.list k60 c61, .list k62 c63], .tup [.agg [.list k64 c65, .list k66 c67], iD r68], .tup [.agg [.list k69 c70, .list k71 c72], iD r73], iD r74, .tup [.agg [.list k75 c76, .list k77 c78], iD r79], .one (.bool r80)], k_l kq84_ (bF 10 (bT 4 [])) [.tup [iD (Int.ofNat 0)], iD r59, .agg [.list k60 c61, .list k62 c63], .tup [.agg [.list k64 c65, .list k66 c67], iD r68], .tup [.agg [.list k69 c70, .list k71 c72], iD r73], iD r74, .tup [.agg [.list k75 c76, .list k77 c78], iD r79], .one (.bool r80)] [iD r59, .agg [.list k60 c61, .list k62 c63], .tup [.agg [.list k64 c65, .list k66 c67], iD r68], .tup [.agg [.list k69 c70, .list k71 c72], iD r73], iD r74, .tup [.agg [.list k75 c76, .list k77 c78], iD r79], .one (.bool r80)], k_c fq87_, k_c fq92_, k_c fq94_, k_c fq96_, k_c fq104_, k_c fq109_, k_c fq113_] (by kernel_rfl)
      have hq112_ := (if_neg bq111_).symm.trans hq110_
      have bq115_ : r79 ≠ (0 : Int) := by first | exact bq111_ | simpa using bq111_
      obtain rfl := Option.some.inj hq112_
      exact con_pc (op := true) (I := [6]) (sp := law6_sp) 3000 (bF 37 (bT 1 (bF 22 (bT 1 (bF 36 []))))) [.one (.bool r0), .one (.bool r1), iD r2, .agg [.list k3 c4, .list k5 c6], .tup [.agg [.list k7 c8, .list k9 c10], iD r11], iD r12, .agg [.list k13 c14, .list k15 c16], .tup [.agg [.list k17 c18, .list k19 c20], iD r21], .agg [.list k22 c23, .list k24 c25], .tup [.agg [.list k26 c27, .list k28 c29], iD r30], .agg [.list k31 c32, .list k33 c34], .tup [.agg [.list k35 c36, .list k37 c38], iD r39], .agg [.list k40 c41, .list k42 c43], .tup [.agg [.list k44 c45, .list k46 c47], iD r48], .agg [.list k49 c50, .list k51 c52], .tup [.agg [.list k53 c54, .list k55 c56], iD r57], .one (.bool r58), .tup [iD (Int.ofNat 0)], .tup [iD (Int.ofNat 0)], iD r59, .agg [.list k60 c61, .list k62 c63], .tup [.agg [.list k64 c65, .list k66 c67], iD r68], .tup [.agg [.list k69 c70, .list k71 c72], iD r73], iD r74, .tup [.agg [.list k75 c76, .list k77 c78], iD r79]] [c_nn b5_, c_nn b10_, c_nn b10_, c_nn b10_, c_nn b10_, c_bn b15_, c_bn b22_, c_bn b22_, c_bn b22_, c_bn b22_, c_bn bq5_, c_bn bq5_, c_bn bq5_, c_bn bq5_, c_bn bq5_, c_bn bq5_, c_bn bq5_, c_bn bq5_, c_bn bq8_, c_bn bq31_, c_bn bq31_, c_bn bq31_, c_bn bq31_, c_bn bq31_, c_nn bq36_, c_nn bq36_, c_nn bq36_, c_bn bq39_, c_bn bq39_, c_bn bq39_, c_bn bq42_, c_bn bq42_, c_bn bq42_, c_bn bq45_, c_bn bq45_, c_bn bq45_, c_bn bq48_, c_T, c_bn bq51_, c_bn bq51_, c_bn bq51_, c_bn bq51_, c_bn bq51_, c_bn bq51_, c_bn bq51_, c_bn bq54_, c_bn bq54_, c_bn bq54_, c_bn bq54_, c_bn bq54_, c_bn bq54_, c_bn bq54_, c_bn bq57_, c_bn bq57_, c_bn bq57_, c_bn bq57_, c_bn bq57_, c_bn bq57_, c_bn bq57_, c_bn bq60_, c_T, c_bn bq70_, c_bn bq70_, c_bn bq70_, c_bn bq70_, c_bn bq70_, c_bn bq70_, c_bn bq70_, c_bn bq73_, c_bn bq73_, c_bn bq73_, c_bn bq73_, c_bn bq73_, c_bn bq73_, c_bn bq73_, c_bn bq76_, c_bn bq76_, c_bn bq76_, c_bn bq76_, c_bn bq76_, c_bn bq76_, c_bn bq76_, c_bn bq79_, c_F, c_bn bq91_, c_bn bq100_, c_bn bq100_, c_bn bq100_, c_bn bq103_, c_bn bq103_, c_bn bq103_, c_bn bq103_, c_bn bq108_, c_en bq115_, c_en bq115_, c_en bq115_, c_en bq115_] [k_c f1_, k_c f6_, k_c f11_, k_c f16_, k_c f18_, k_c fq1_, k_c fq9_, k_c fq11_, k_c fq13_, k_c fq15_, k_c fq17_, k_c fq19_, k_c fq21_, k_c fq23_, k_c fq25_, k_c fq27_, k_c fq32_, k_l kq65_ (bT 1 (bF 36 [])) [.tup [iD (Int.ofNat 0)], .tup [iD (Int.ofNat 0)], iD r59, .agg [.list k60 c61, .list k62 c63], .tup [.agg [.list k64 c65, .list k66 c67], iD r68], .tup [.agg [.list k69 c70, .list k71 c72], iD r73], iD r74, .tup [.agg [.list k75 c76, .list k77 c78], iD r79]] [.tup [iD (Int.ofNat 0)], iD r59, .agg [.list k60 c61, .list k62 c63], .tup [.agg [.list k64 c65, .list k66 c67], iD r68], .tup [.agg [.list k69 c70, .list k71 c72], iD r73], iD r74, .tup [.agg [.list k75 c76, .list k77 c78], iD r79]], k_l kq84_ (bF 14 []) [.tup [iD (Int.ofNat 0)], iD r59, .agg [.list k60 c61, .list k62 c63], .tup [.agg [.list k64 c65, .list k66 c67], iD r68], .tup [.agg [.list k69 c70, .list k71 c72], iD r73], iD r74, .tup [.agg [.list k75 c76, .list k77 c78], iD r79]] [iD r59, .agg [.list k60 c61, .list k62 c63], .tup [.agg [.list k64 c65, .list k66 c67], iD r68], .tup [.agg [.list k69 c70, .list k71 c72], iD r73], iD r74, .tup [.agg [.list k75 c76, .list k77 c78], iD r79]], k_c fq87_, k_c fq92_, k_c fq94_, k_c fq96_, k_c fq104_, k_c fq109_] (by kernel_rfl)
    have hq116_ := (if_neg jq82_).symm.trans hq81_
    clear hq81_
    by_cases jq117_ : j = 1
    · have hq120_ := (if_pos jq117_).symm.trans hq116_
      clear hq116_
      subst jq117_
      obtain ⟨l81, eq118_, hq121_⟩ := pullD_elim hq120_
      clear hq120_
      obtain rfl := tup_inj eq118_
      have kq119_ := law6_L22_1_in1 ka ca kb cb n r0 r1 r2 k3 c4 k5 c6 k7 c8 k9 c10 r11 r12 k13 c14 k15 c16 k17 c18 k19 c20 r21 k22 c23 k24 c25 k26 c27 k28 c29 r30 k31 c32 k33 c34 k35 c36 k37 c38 r39 k40 c41 k42 c43 k44 c45 k46 c47 r48 k49 c50 k51 c52 k53 c54 k55 c56 r57 r58 eq80_
      obtain rfl := Option.some.inj hq121_
      exact con_pc (op := true) (I := [6]) (sp := law6_sp) 3000 (bF 37 (bT 1 (bF 22 (bT 1 (bF 22 []))))) [.one (.bool r0), .one (.bool r1), iD r2, .agg [.list k3 c4, .list k5 c6], .tup [.agg [.list k7 c8, .list k9 c10], iD r11], iD r12, .agg [.list k13 c14, .list k15 c16], .tup [.agg [.list k17 c18, .list k19 c20], iD r21], .agg [.list k22 c23, .list k24 c25], .tup [.agg [.list k26 c27, .list k28 c29], iD r30], .agg [.list k31 c32, .list k33 c34], .tup [.agg [.list k35 c36, .list k37 c38], iD r39], .agg [.list k40 c41, .list k42 c43], .tup [.agg [.list k44 c45, .list k46 c47], iD r48], .agg [.list k49 c50, .list k51 c52], .tup [.agg [.list k53 c54, .list k55 c56], iD r57], .one (.bool r58), .tup [iD (Int.ofNat 0)], .tup [iD (Int.ofNat 1), .one (.bool l81)]] [c_nn b5_, c_nn b10_, c_nn b10_, c_nn b10_, c_nn b10_, c_bn b15_, c_bn b22_, c_bn b22_, c_bn b22_, c_bn b22_, c_bn bq5_, c_bn bq5_, c_bn bq5_, c_bn bq5_, c_bn bq5_, c_bn bq5_, c_bn bq5_, c_bn bq5_, c_bn bq8_, c_bn bq31_, c_bn bq31_, c_bn bq31_, c_bn bq31_, c_bn bq31_, c_nn bq36_, c_nn bq36_, c_nn bq36_, c_bn bq39_, c_bn bq39_, c_bn bq39_, c_bn bq42_, c_bn bq42_, c_bn bq42_, c_bn bq45_, c_bn bq45_, c_bn bq45_, c_bn bq48_, c_T, c_bn bq51_, c_bn bq51_, c_bn bq51_, c_bn bq51_, c_bn bq51_, c_bn bq51_, c_bn bq51_, c_bn bq54_, c_bn bq54_, c_bn bq54_, c_bn bq54_, c_bn bq54_, c_bn bq54_, c_bn bq54_, c_bn bq57_, c_bn bq57_, c_bn bq57_, c_bn bq57_, c_bn bq57_, c_bn bq57_, c_bn bq57_, c_bn bq60_, c_T, c_bn bq70_, c_bn bq70_, c_bn bq70_, c_bn bq70_, c_bn bq70_, c_bn bq70_, c_bn bq70_, c_bn bq73_, c_bn bq73_, c_bn bq73_, c_bn bq73_, c_bn bq73_, c_bn bq73_, c_bn bq73_, c_bn bq76_, c_bn bq76_, c_bn bq76_, c_bn bq76_, c_bn bq76_, c_bn bq76_, c_bn bq76_, c_bn bq79_] [k_c f1_, k_c f6_, k_c f11_, k_c f16_, k_c f18_, k_c fq1_, k_c fq9_, k_c fq11_, k_c fq13_, k_c fq15_, k_c fq17_, k_c fq19_, k_c fq21_, k_c fq23_, k_c fq25_, k_c fq27_, k_c fq32_, k_l kq65_ (bT 1 (bF 22 [])) [.tup [iD (Int.ofNat 0)], .tup [iD (Int.ofNat 1), .one (.bool l81)]] [.tup [iD (Int.ofNat 1), .one (.bool l81)]], k_l kq119_ [] [.tup [iD (Int.ofNat 1), .one (.bool l81)]] []] (by kernel_rfl)
    have hq122_ := (if_neg jq117_).symm.trans hq116_
    clear hq116_
    cases hq122_
  have hq123_ := (if_neg jq63_).symm.trans hq62_
  clear hq62_
  by_cases jq124_ : j = 1
  · have hq127_ := (if_pos jq124_).symm.trans hq123_
    clear hq123_
    subst jq124_
    obtain ⟨l82, eq125_, hq128_⟩ := pullD_elim hq127_
    clear hq127_
    obtain rfl := tup_inj eq125_
    have kq126_ := law6_L22_in1 ka ca kb cb n r0 r1 r2 k3 c4 k5 c6 k7 c8 k9 c10 r11 r12 k13 c14 k15 c16 k17 c18 k19 c20 r21 k22 c23 k24 c25 k26 c27 k28 c29 r30 k31 c32 k33 c34 k35 c36 k37 c38 r39 k40 c41 k42 c43 k44 c45 k46 c47 r48 k49 c50 k51 c52 k53 c54 k55 c56 r57 r58 eq61_
    obtain rfl := Option.some.inj hq128_
    exact con_pc (op := true) (I := [6]) (sp := law6_sp) 3000 (bF 37 (bT 1 (bF 22 []))) [.one (.bool r0), .one (.bool r1), iD r2, .agg [.list k3 c4, .list k5 c6], .tup [.agg [.list k7 c8, .list k9 c10], iD r11], iD r12, .agg [.list k13 c14, .list k15 c16], .tup [.agg [.list k17 c18, .list k19 c20], iD r21], .agg [.list k22 c23, .list k24 c25], .tup [.agg [.list k26 c27, .list k28 c29], iD r30], .agg [.list k31 c32, .list k33 c34], .tup [.agg [.list k35 c36, .list k37 c38], iD r39], .agg [.list k40 c41, .list k42 c43], .tup [.agg [.list k44 c45, .list k46 c47], iD r48], .agg [.list k49 c50, .list k51 c52], .tup [.agg [.list k53 c54, .list k55 c56], iD r57], .one (.bool r58), .tup [iD (Int.ofNat 1), .one (.bool l82)]] [c_nn b5_, c_nn b10_, c_nn b10_, c_nn b10_, c_nn b10_, c_bn b15_, c_bn b22_, c_bn b22_, c_bn b22_, c_bn b22_, c_bn bq5_, c_bn bq5_, c_bn bq5_, c_bn bq5_, c_bn bq5_, c_bn bq5_, c_bn bq5_, c_bn bq5_, c_bn bq8_, c_bn bq31_, c_bn bq31_, c_bn bq31_, c_bn bq31_, c_bn bq31_, c_nn bq36_, c_nn bq36_, c_nn bq36_, c_bn bq39_, c_bn bq39_, c_bn bq39_, c_bn bq42_, c_bn bq42_, c_bn bq42_, c_bn bq45_, c_bn bq45_, c_bn bq45_, c_bn bq48_, c_T, c_bn bq51_, c_bn bq51_, c_bn bq51_, c_bn bq51_, c_bn bq51_, c_bn bq51_, c_bn bq51_, c_bn bq54_, c_bn bq54_, c_bn bq54_, c_bn bq54_, c_bn bq54_, c_bn bq54_, c_bn bq54_, c_bn bq57_, c_bn bq57_, c_bn bq57_, c_bn bq57_, c_bn bq57_, c_bn bq57_, c_bn bq57_, c_bn bq60_] [k_c f1_, k_c f6_, k_c f11_, k_c f16_, k_c f18_, k_c fq1_, k_c fq9_, k_c fq11_, k_c fq13_, k_c fq15_, k_c fq17_, k_c fq19_, k_c fq21_, k_c fq23_, k_c fq25_, k_c fq27_, k_c fq32_, k_l kq126_ [] [.tup [iD (Int.ofNat 1), .one (.bool l82)]] []] (by kernel_rfl)
  have hq129_ := (if_neg jq124_).symm.trans hq123_
  clear hq123_
  cases hq129_
theorem law6_M_ok (ka : Nat) (ca : List D) (kb : Nat) (cb : List D) (n : Int) {r : D} (h : law6_M ka ca kb cb n = some r) : Con 6 [.agg [.list ka ca, .list kb cb], iD n] r := by
  unfold law6_M at h
  obtain ⟨r0, f1_, h2_⟩ := pullD_elim h
  replace f1_ := m_8_ok f1_
  by_cases b3_ : r0 = false
  · have h4_ := (if_pos b3_).symm.trans h2_
    obtain rfl := Option.some.inj h4_
    exact con_pc (op := true) (I := [6]) (sp := law6_sp) 3000 (bT 1 []) [.one (.bool r0)] [c_no b3_] [k_c f1_] (by kernel_rfl)
  have h4_ := (if_neg b3_).symm.trans h2_
  have b5_ : r0 = true := by first | exact b3_ | simpa using b3_
  obtain ⟨r1, f6_, h7_⟩ := pullD_elim h4_
  replace f6_ := m_9_ok f6_
  by_cases b8_ : r1 = false
  · have h9_ := (if_pos b8_).symm.trans h7_
    obtain rfl := Option.some.inj h9_
    exact con_pc (op := true) (I := [6]) (sp := law6_sp) 3000 (bF 1 (bT 5 [])) [.one (.bool r0), .one (.bool r1)] [c_nn b5_, c_no b8_, c_no b8_, c_no b8_, c_no b8_, c_T] [k_c f1_, k_c f6_] (by kernel_rfl)
  have h9_ := (if_neg b8_).symm.trans h7_
  have b10_ : r1 = true := by first | exact b8_ | simpa using b8_
  obtain ⟨r2, f11_, h12_⟩ := pullD_elim h9_
  replace f11_ := m_16_ok f11_
  by_cases b13_ : r2 ≠ (0 : Int)
  · have h14_ := (if_pos b13_).symm.trans h12_
    obtain rfl := Option.some.inj h14_
    exact con_pc (op := true) (I := [6]) (sp := law6_sp) 3000 (bF 5 (bT 1 [])) [.one (.bool r0), .one (.bool r1), iD r2] [c_nn b5_, c_nn b10_, c_nn b10_, c_nn b10_, c_nn b10_, c_b b13_] [k_c f1_, k_c f6_, k_c f11_] (by kernel_rfl)
  have h14_ := (if_neg b13_).symm.trans h12_
  have b15_ : r2 = (0 : Int) := by first | exact b13_ | simpa using b13_
  obtain ⟨⟨k3, c4, k5, c6⟩, f16_, h17_⟩ := pullD_elim h14_
  replace f16_ := m_11_ok f16_
  obtain ⟨⟨k7, c8, k9, c10, r11⟩, f18_, h19_⟩ := pullD_elim h17_
  replace f18_ := m_28_ok f18_
  by_cases b20_ : r11 ≠ (0 : Int)
  · have h21_ := (if_pos b20_).symm.trans h19_
    obtain rfl := Option.some.inj h21_
    exact con_pc (op := true) (I := [6]) (sp := law6_sp) 3000 (bF 6 (bT 13 [])) [.one (.bool r0), .one (.bool r1), iD r2, .agg [.list k3 c4, .list k5 c6], .tup [.agg [.list k7 c8, .list k9 c10], iD r11]] [c_nn b5_, c_nn b10_, c_nn b10_, c_nn b10_, c_nn b10_, c_bn b15_, c_b b20_, c_b b20_, c_b b20_, c_b b20_, c_T, c_T, c_T, c_T, c_T, c_T, c_T, c_T, c_T] [k_c f1_, k_c f6_, k_c f11_, k_c f16_, k_c f18_] (by kernel_rfl)
  have h21_ := (if_neg b20_).symm.trans h19_
  have b22_ : r11 = (0 : Int) := by first | exact b20_ | simpa using b20_
  exact law6_M_s0_ok ka ca kb cb n r0 r1 r2 k3 c4 k5 c6 k7 c8 k9 c10 r11 f1_ b5_ f6_ b10_ f11_ b15_ f16_ f18_ b22_ h21_
def m_6 (ds : List D) : Option D := pullD (α := Nat × (List D) × Nat × (List D) × Int) (some (.tup ds)) (fun d => ((D.ln (D.at (D.at d 0) 0)), (D.lc (D.at (D.at d 0) 0)), (D.ln (D.at (D.at d 0) 1)), (D.lc (D.at (D.at d 0) 1)), (D.vi (D.at d 1)))) (fun (ka, ca, kb, cb, n) => .tup [.agg [.list ka ca, .list kb cb], iD n]) fun (ka, ca, kb, cb, n) => law6_M ka ca kb cb n
theorem m_6_ok {ds : List D} {r : D} (h : m_6 ds = some r) : Con 6 ds r := by
  unfold m_6 at h
  obtain ⟨⟨ka, ca, kb, cb, n⟩, e0, h0⟩ := pullD_elim h
  obtain rfl := tup_inj e0
  exact law6_M_ok ka ca kb cb n h0
theorem m_6_eq (ka : Nat) (ca : List D) (kb : Nat) (cb : List D) (n : Int) : m_6 [.agg [.list ka ca, .list kb cb], iD n] = law6_M ka ca kb cb n := pullD_some (ka, ca, kb, cb, n) rfl rfl
end
end Go.Proofs.Ytbfefnfmdkgfjaa
/- Windows upside down, and shifted: the law. -/
namespace Go.Proofs.Ytbfefnfmdkgfjaa
open Go.Ev Go.RowKit
set_option maxRecDepth 100000
noncomputable section
def st6 (ka : Nat) (x35 : Nat) (x36 : List D) (x26 : Nat) (x27 : List D) (x53 : Nat) (x54 : List D) (x44 : Nat) (x45 : List D) (ds : List D) : Option Rd := pullD (α := Int) (some (.tup ds)) (fun d => ((D.vi (D.at d 0)))) (fun s19 => .tup [iD s19]) fun s19 => ((if s19 < (ka : Int) then guardP ((0 : Int) ≤ IntKind.i64.wrap (IntKind.i64.wrap ((ka : Int) - (1 : Int)) - s19) ∧ (IntKind.i64.wrap (IntKind.i64.wrap ((ka : Int) - (1 : Int)) - s19)).toNat < x35) (pullD (α := Int) (readD x36 ((IntKind.i64.wrap (IntKind.i64.wrap ((ka : Int) - (1 : Int)) - s19)).toNat * 1) 1 false) (fun d => ((D.vi d))) (fun v0 => iD v0) fun v0 => (guardP ((0 : Int) ≤ s19 ∧ s19.toNat < x26) (pullD (α := Int) (readD x27 (s19.toNat * 1) 1 false) (fun d => ((D.vi d))) (fun v1 => iD v1) fun v1 => ((if v0 ≠ IntKind.i64.wrap ((0 : Int) - v1) then some (.out 1 [.one (.bool false)]) else guardP ((0 : Int) ≤ IntKind.i64.wrap (IntKind.i64.wrap ((ka : Int) - (1 : Int)) - s19) ∧ (IntKind.i64.wrap (IntKind.i64.wrap ((ka : Int) - (1 : Int)) - s19)).toNat < x53) (pullD (α := Int) (readD x54 ((IntKind.i64.wrap (IntKind.i64.wrap ((ka : Int) - (1 : Int)) - s19)).toNat * 1) 1 false) (fun d => ((D.vi d))) (fun v2 => iD v2) fun v2 => (guardP ((0 : Int) ≤ s19 ∧ s19.toNat < x44) (pullD (α := Int) (readD x45 (s19.toNat * 1) 1 false) (fun d => ((D.vi d))) (fun v3 => iD v3) fun v3 => ((if v2 ≠ v3 then some (.out 1 [.one (.bool false)]) else some (.next 0 [iD (IntKind.i64.wrap (s19 + (1 : Int)))]))))))))))) else some (.out 0 [])))
end
section
variable {a b : List Int}
/-! The opposite order; levels of 0 below and above. -/
def mir (l : List Int) : List Int := tab l.length fun j => at' l (l.length - 1 - j)
def pad (l : List Int) (x y : Nat) : List Int := tab (x + l.length + y) fun j => if x ≤ j ∧ j < x + l.length then at' l (j - x) else 0
theorem mir_len (l : List Int) : (mir l).length = l.length := tab_len _ _
theorem pad_len (l : List Int) (x y : Nat) : (pad l x y).length = x + l.length + y := tab_len _ _
theorem mir_at {l : List Int} {i : Nat} (h : i < l.length) : at' (mir l) i = at' l (l.length - 1 - i) := tab_at _ h
theorem pad_at {l : List Int} {x y i : Nat} (h : i < x + l.length + y) : at' (pad l x y) i = if x ≤ i ∧ i < x + l.length then at' l (i - x) else 0 := tab_at _ h
theorem mir_mir (l : List Int) : mir (mir l) = l := by
  have e : mir (mir l) = tab l.length (at' l) := by
    unfold mir
    rw [tab_len]
    refine tab_congr fun i hi => ?_
    rw [tab_at _ (by omega)]
    congr 1
    omega
  rw [e, tab_of]
theorem mir_pad (l : List Int) (x y : Nat) : mir (pad l x y) = pad (mir l) y x := by
  have e1 : (pad l x y).length = y + (mir l).length + x := by rw [pad_len, mir_len]; omega
  unfold mir
  rw [show (pad l x y).length = x + l.length + y from pad_len l x y]
  unfold pad
  rw [tab_len, show x + l.length + y = y + l.length + x by omega]
  refine tab_congr fun i hi => ?_
  by_cases h : y ≤ i ∧ i < y + l.length
  · rw [if_pos h, show y + l.length + x = x + l.length + y by omega, tab_at _ (by omega), if_pos (by omega), tab_at _ (by omega)]
    congr 1
    omega
  · rw [if_neg h, show y + l.length + x = x + l.length + y by omega, tab_at _ (by omega), if_neg (by omega)]
theorem mir_range {l : List Int} (h : ∀ i, -100 ≤ at' l i ∧ at' l i ≤ 100) : ∀ i, -100 ≤ at' (mir l) i ∧ at' (mir l) i ≤ 100 := fun i => by
  rcases Nat.lt_or_ge i l.length with h1 | h1
  · rw [mir_at h1]; exact h _
  · rw [at_out (by rw [mir_len]; exact h1)]; omega
theorem pad_range {l : List Int} (h : ∀ i, -100 ≤ at' l i ∧ at' l i ≤ 100) (x y : Nat) : ∀ i, -100 ≤ at' (pad l x y) i ∧ at' (pad l x y) i ≤ 100 := fun i => by
  rcases Nat.lt_or_ge i (x + l.length + y) with h1 | h1
  · rw [pad_at h1]; split
    · exact h _
    · omega
  · rw [at_out (by rw [pad_len]; exact h1)]; omega
theorem mir_sum (l : List Int) {k : Nat} (hk : k ≤ l.length) : sumTo (at' (mir l)) k = sumTo (at' l) l.length - sumTo (at' l) (l.length - k) := by
  rw [← sumTo_rev (at' l) l.length k hk]
  exact sumTo_congr fun i hi => mir_at (by omega)
theorem pad_sum (l : List Int) (x y : Nat) : sumTo (at' (pad l x y)) (x + l.length + y) = sumTo (at' l) l.length := by
  have key : ∀ k, k ≤ x + l.length + y → sumTo (at' (pad l x y)) k = if k ≤ x then 0 else if k ≤ x + l.length then sumTo (at' l) (k - x) else sumTo (at' l) l.length := by
    intro k
    induction k with
    | zero => intro _; simp [sumTo]
    | succ k ih =>
      intro hk
      have h1 := ih (by omega)
      have e : sumTo (at' (pad l x y)) (k + 1) = sumTo (at' (pad l x y)) k + at' (pad l x y) k := rfl
      rw [e, h1, pad_at (by omega)]
      by_cases c1 : k + 1 ≤ x
      · have hA : ¬ (x ≤ k ∧ k < x + l.length) := by omega
        have hB : k ≤ x := by omega
        rw [if_pos hB, if_neg hA, if_pos c1]; rfl
      · rw [if_neg c1]
        by_cases c2 : k + 1 ≤ x + l.length
        · have hA : x ≤ k ∧ k < x + l.length := by omega
          rw [if_pos c2, if_pos hA]
          have e2 : sumTo (at' l) (k + 1 - x) = sumTo (at' l) (k - x) + at' l (k - x) := by
            rw [show k + 1 - x = k - x + 1 by omega]; rfl
          by_cases c3 : k ≤ x
          · rw [if_pos c3, e2, show k - x = 0 by omega]; rfl
          · have hC : k ≤ x + l.length := by omega
            rw [if_neg c3, if_pos hC, e2]
        · have hA : ¬ (x ≤ k ∧ k < x + l.length) := by omega
          rw [if_neg c2, if_neg hA, Int.add_zero]
          by_cases c3 : k ≤ x
          · have hz : l.length = 0 := by omega
            rw [if_pos c3, hz]; rfl
          · rw [if_neg c3]
            by_cases c4 : k ≤ x + l.length
            · rw [if_pos c4, show k - x = l.length by omega]
            · rw [if_neg c4]
  rw [key _ (Nat.le_refl _)]
  by_cases c1 : x + l.length + y ≤ x
  · have hz : l.length = 0 := by omega
    rw [if_pos c1, hz]; rfl
  · rw [if_neg c1]
    by_cases c2 : x + l.length + y ≤ x + l.length
    · rw [if_pos c2, show x + l.length + y - x = l.length by omega]
    · rw [if_neg c2]
theorem mir_win (h : Win a b) : Win (mir a) (mir b) := by
  have hlen := h.len
  have hs := h.sum
  refine ⟨by rw [mir_len, mir_len]; exact h.len, by rw [mir_len]; exact h.pos, by rw [mir_len]; exact h.le, mir_range h.ra, mir_range h.rb, ?_⟩
  rw [mir_len, mir_sum a (Nat.le_refl _), ← hlen, mir_sum b (Nat.le_refl _), hlen]
  rw [show a.length - a.length = 0 by omega]
  have : ∀ f : Nat → Int, sumTo f 0 = 0 := fun _ => rfl
  rw [this, this]
  omega
theorem pad_win (h : Win a b) {x y : Nat} (hxy : x + a.length + y ≤ 15) : Win (pad a x y) (pad b y x) := by
  have hlen := h.len
  have hpos := h.pos
  refine ⟨by rw [pad_len, pad_len]; omega, by rw [pad_len]; omega, by rw [pad_len]; exact hxy, pad_range h.ra x y, pad_range h.rb y x, ?_⟩
  have e := pad_sum b y x
  rw [pad_len, pad_sum, show x + a.length + y = y + b.length + x by omega, e, hlen]
  exact h.sum
theorem mir_rs (h : Win a b) {k : Nat} (hk : k ≤ a.length) : rs (mir a) (mir b) k = -rs a b (a.length - k) := by
  have hlen := h.len
  have hs := h.sum
  have e1 := mir_sum a hk
  have e2 := mir_sum b (k := k) (by omega)
  unfold rs
  rw [sumTo_add, sumTo_add, e1, e2, hlen]
  omega
theorem mir_ax (h : Win a b) {t : List Int} (ht : t.length = a.length) {i : Nat} (hi : i < a.length) : ax (mir t) (mir a) (mir b) (a.length - 1 - i) = -ax t a b i := by
  unfold ax
  rw [mir_at (by omega), mir_rs h (by omega), mir_rs h (by omega), ht, show a.length - 1 - (a.length - 1 - i) = i by omega, show a.length - (a.length - 1 - i) = i + 1 by omega, show a.length - (a.length - 1 - i + 1) = i by omega]
  grind
theorem mir_rx (h : Win a b) {i : Nat} (hi : i < a.length) : rx (mir a) (mir b) (a.length - 1 - i) = rx a b i ∧ ry (mir a) (mir b) (a.length - 1 - i) = ry a b i := by
  have hlen := h.len
  unfold rx ry
  rw [mir_at (l := a) (by omega), mir_at (l := b) (by omega), hlen, show a.length - 1 - (a.length - 1 - i) = i by omega]
  exact ⟨rfl, rfl⟩
/-! The program. -/
theorem ok_loop (l : List Int) (hl : l.length ≤ 1000) (hr : ∀ i, -100 ≤ at' l i ∧ at' l i ≤ 100) (kk : Nat) (cc : List D) (S : Rd → Option Rd) (hS : ∀ ds, S (.next 0 ds) = winErr_L7_S0 l.length (l.map iD) kk cc ds) (s : Int) (hs : -100000 ≤ s ∧ s ≤ 100000) :
    runR S (.next 0 [iD s, iD 0]) = some (.out 0 [iD (s + sumTo (at' l) l.length)]) := by
  have h1 : runR S (.next 0 [iD (s + sumTo (at' l) 0), iD 0]) = _ := runR_scan (S := S) (fun _ => 0) (fun i => [iD (s + sumTo (at' l) i), iD (i : Int)]) (Nat.zero_le l.length) (fun i _ hi => by
    have g := hr i
    have g2 := sumTo_bound (f := at' l) (B := 100) (k := i) fun j _ => hr j
    show S (.next 0 _) = _
    rw [hS]
    unfold winErr_L7_S0
    rw [pullD_some (s + sumTo (at' l) i, (i : Int)) (by rfl) (by rfl)]
    dsimp only
    have e : sumTo (at' l) (i + 1) = sumTo (at' l) i + at' l i := rfl
    rw [if_pos (by omega), guardP_pos (by omega), readA hi, pullD_some (at' l i) (by rfl) (by rfl), within_eq, pullB, if_neg (by simp [g]), pullD_some (at' l i) (by rfl) (by rfl), wrapJ (s + sumTo (at' l) i + at' l i) (by omega) (by omega), natI (by omega), e, Int.add_assoc])
  have e0 : s + sumTo (at' l) 0 = s := by show s + 0 = s; omega
  rw [e0] at h1
  refine h1.trans (runR_exit ?_)
  rw [hS]
  unfold winErr_L7_S0
  rw [pullD_some (s + sumTo (at' l) l.length, (l.length : Int)) (by rfl) (by rfl)]
  dsimp only
  rw [if_neg (by omega)]
theorem winErr_ok (h : Win a b) : m_16 [wnD a b] = some (iD 0) := by
  have hp := h.pos
  have hle := h.le
  have hlen := h.len
  have hs := h.sum
  have g := sumTo_bound (f := at' a) (B := 100) (k := a.length) fun j _ => h.ra j
  rw [m_16_eq]
  unfold winErr_M
  rw [if_neg (by omega), if_neg (by omega), if_neg (by omega), bindL_some (ok_loop a (by omega) h.ra b.length (b.map iD) (winErr_L7_S a.length (a.map iD) b.length (b.map iD)) (fun _ => rfl) 0 (by omega)), if_pos rfl, Int.zero_add, pullD_some (sumTo (at' a) a.length) (by rfl) (by rfl),
    bindL_some (ok_loop b (by omega) h.rb a.length (a.map iD) (winErr_L13_S a.length (a.map iD) b.length (b.map iD) (sumTo (at' a) a.length)) (fun _ => rfl) (sumTo (at' a) a.length) (by omega)), if_pos rfl, hlen, pullD_some (sumTo (at' a) a.length + sumTo (at' b) a.length) (by rfl) (by rfl), if_neg (by omega)]
theorem ints_same (l : List Int) (hl : l.length ≤ 1000) : m_19 [lD l, lD l] = some (.one (.bool true)) := by
  rw [m_19_eq]
  unfold ints_M
  rw [if_neg (by simp)]
  have h1 : runR (ints_L4_S l.length (l.map iD) l.length (l.map iD)) (.next 0 [iD 0]) = _ := runR_scan (S := ints_L4_S l.length (l.map iD) l.length (l.map iD)) (fun _ => 0) (fun i => [iD (i : Int)]) (Nat.zero_le l.length) (fun i _ hi => by
    show ints_L4_S0 l.length (l.map iD) l.length (l.map iD) _ = _
    unfold ints_L4_S0
    rw [pullD_some (i : Int) (by rfl) (by rfl), if_pos (by omega), guardP_pos (by omega), readA hi, pullD_some (at' l i) (by rfl) (by rfl), guardP_pos (by omega), pullD_some (at' l i) (by rfl) (by rfl), if_neg (by simp), natI (by omega)])
  have h2 : runR (ints_L4_S l.length (l.map iD) l.length (l.map iD)) (.next 0 [iD (l.length : Int)]) = some (.out 0 []) := runR_exit (by
    show ints_L4_S0 l.length (l.map iD) l.length (l.map iD) _ = _
    unfold ints_L4_S0
    rw [pullD_some (l.length : Int) (by rfl) (by rfl), if_neg (by omega)])
  rw [bindL_some (h1.trans h2), if_pos rfl, pullD_some () (by rfl) (by rfl)]
theorem same_eq (a b : List Int) (ha : a.length ≤ 1000) (hb : b.length ≤ 1000) : m_30 [wnD a b, wnD a b] = some (.one (.bool true)) := by
  rw [m_30_eq]
  unfold same_M
  rw [show [D.list a.length (a.map iD), D.list a.length (a.map iD)] = [lD a, lD a] from rfl, ints_same a ha, pullB, if_pos rfl, show [D.list b.length (b.map iD), D.list b.length (b.map iD)] = [lD b, lD b] from rfl, ints_same b hb, pullB]
theorem zerosD (n : Nat) : manyZeros (Value.int .i64 (0 : Int)).cells.toList n = (tab n fun _ => 0).map iD := by
  unfold manyZeros
  rw [zeros_list, tab_zeros]
theorem padded_eq (l : List Int) (hp : 0 < l.length) (hl : l.length ≤ 1000) {x y : Nat} (hx : x ≤ 1000) (hy : y ≤ 1000) : m_70 [lD l, iD (x : Int), iD (y : Int)] = some (lD (pad l x y)) := by
  rw [m_70_eq]
  unfold padded_M
  have e : IntKind.i64.wrap (IntKind.i64.wrap ((x : Int) + (l.length : Int)) + (y : Int)) = ((x + l.length + y : Nat) : Int) := by
    rw [wrapJ ((x : Int) + (l.length : Int)) (by omega) (by omega), wrapJ _ (by omega) (by omega)]; omega
  simp only [e, Int.toNat_natCast]
  rw [zerosD, guardP_pos ⟨by omega, by omega, by omega, by omega⟩, guardP_pos ⟨by omega, by omega, by omega, by omega⟩, guardP_pos ⟨by omega, by simp only [List.length_map, tab_len]; omega, cells_int l⟩, guardP_pos (by simp), guardP_pos (Nat.le_refl _)]
  have e2 : List.append (List.take (0 + x * 1) ((tab (x + l.length + y) fun _ => 0).map iD) ++ l.map iD) (List.drop (0 + x * 1 + (l.map iD).length) ((tab (x + l.length + y) fun _ => 0).map iD)) = (pad l x y).map iD := by
    show List.take (0 + x * 1) ((tab (x + l.length + y) fun _ => 0).map iD) ++ l.map iD ++ List.drop (0 + x * 1 + (l.map iD).length) ((tab (x + l.length + y) fun _ => 0).map iD) = _
    rw [Nat.zero_add, Nat.mul_one, List.length_map, ← List.map_take, ← List.map_drop, ← List.map_append, ← List.map_append]
    congr 1
    apply List.ext_getElem?
    intro i
    by_cases h1 : i < x
    · rw [List.append_assoc, List.getElem?_append_left (by rw [List.length_take, tab_len]; omega), List.getElem?_take, if_pos h1, tab_get _ (by omega)]
      unfold pad
      rw [tab_get _ (by omega), if_neg (by omega)]
    · by_cases h2 : i < x + l.length
      · rw [List.append_assoc, List.getElem?_append_right (by rw [List.length_take, tab_len]; omega), List.getElem?_append_left (by rw [List.length_take, tab_len]; omega), List.length_take, tab_len, show min x (x + l.length + y) = x by omega, at_get (by omega)]
        unfold pad
        rw [tab_get _ (by omega), if_pos (by omega)]
      · rw [List.getElem?_append_right (by rw [List.length_append, List.length_take, tab_len]; omega), List.length_append, List.length_take, tab_len, List.getElem?_drop, show x + l.length + (i - (min x (x + l.length + y) + l.length)) = i by omega]
        unfold pad
        by_cases h3 : i < x + l.length + y
        · rw [tab_get _ h3, tab_get _ h3, if_neg (by omega)]
        · rw [List.getElem?_eq_none (by rw [tab_len]; omega), List.getElem?_eq_none (by rw [tab_len]; omega)]
  rw [e2]
  simp only [lD, pad_len]
theorem shifted_eq (h : Win a b) {n : Int} (h1 : -3 ≤ n) (h2 : n ≤ 3) : m_56 [wnD a b, iD n] = some (wnD (pad a (-n).toNat n.toNat) (pad b n.toNat (-n).toNat)) := by
  have hp := h.pos
  have hle := h.le
  have hlen := h.len
  rw [m_56_eq]
  unfold shifted_M
  have e1 : IntKind.i64.wrap (0 - n) = -n := by rw [Int.zero_sub]; exact wrapJ _ (by omega) (by omega)
  have e2 : (if (0 : Int) > -n then (0 : Int) else -n) = ((-n).toNat : Int) := by split <;> omega
  have e3 : (if (0 : Int) > n then (0 : Int) else n) = (n.toNat : Int) := by split <;> omega
  rw [e1, e2, e3, show [D.list a.length (a.map iD), iD ((-n).toNat : Int), iD (n.toNat : Int)] = [lD a, iD ((-n).toNat : Int), iD (n.toNat : Int)] from rfl, padded_eq a hp (by omega) (by omega) (by omega), pullD_some ((pad a (-n).toNat n.toNat).length, (pad a (-n).toNat n.toNat).map iD) (by rfl) (by rfl)]
  dsimp only
  rw [show [D.list b.length (b.map iD), iD (n.toNat : Int), iD ((-n).toNat : Int)] = [lD b, iD (n.toNat : Int), iD ((-n).toNat : Int)] from rfl, padded_eq b (by omega) (by omega) (by omega) (by omega), pullD_some ((pad b n.toNat (-n).toNat).length, (pad b n.toNat (-n).toNat).map iD) (by rfl) (by rfl)]
theorem shiftedOf_eq (h : Win a b) {n : Int} (h1 : -3 ≤ n) (h2 : n ≤ 3) (h3 : (-n).toNat + a.length + n.toNat ≤ 15) : m_27 [wnD a b, iD n] = some (.tup [wnD (pad a (-n).toNat n.toNat) (pad b n.toNat (-n).toNat), iD 0]) := by
  rw [m_27_eq]
  unfold shiftedOf_M
  rw [show [D.agg [D.list a.length (a.map iD), D.list b.length (b.map iD)]] = [wnD a b] from rfl, chkd_eq h, pullD_some (a.length, a.map iD, b.length, b.map iD, 0) (by rfl) (by rfl)]
  dsimp only
  rw [if_neg (by rw [show IntKind.i64.wrap (0 - 3) = -3 from wrapJ (0 - 3) (by decide) (by decide)]; omega), if_neg (by omega), show [D.list 2 [iD 0, iD 0]] = [lD [0, 0]] from rfl, first_eq _ (by decide), pullD_some (0 : Int) (by rfl) (by rfl), if_neg (by decide),
    show [D.agg [D.list a.length (a.map iD), D.list b.length (b.map iD)], iD n] = [wnD a b, iD n] from rfl, shifted_eq h h1 h2, pullD_some ((pad a (-n).toNat n.toNat).length, (pad a (-n).toNat n.toNat).map iD, (pad b n.toNat (-n).toNat).length, (pad b n.toNat (-n).toNat).map iD) (by rfl) (by rfl)]
  dsimp only
  rw [if_neg (by rw [pad_len]; omega)]
theorem shiftErr_eq (a b : List Int) (n : Int) (hl : a.length ≤ 1000) : ∃ e, m_32 [wnD a b, iD n] = some (iD e) ∧ (e = 0 → -3 ≤ n ∧ n ≤ 3 ∧ (-n).toNat + a.length + n.toNat ≤ 15) := by
  rw [m_32_eq]
  unfold shiftErr_M
  rw [within_eq, pullB]
  by_cases h : -3 ≤ n ∧ n ≤ 3
  rotate_left
  · rw [if_pos (by simpa using h)]; exact ⟨2, rfl, fun e => by omega⟩
  rw [if_neg (by simpa using h), m_55_eq]
  unfold size_M
  rw [wrapJ (0 - n) (by omega) (by omega), pullI]
  have e1 : (if 0 - n > n then 0 - n else n) = ((-n).toNat : Int) + (n.toNat : Int) := by split <;> omega
  rw [e1, wrapJ _ (by omega) (by omega)]
  by_cases h2 : (a.length : Int) + (((-n).toNat : Int) + (n.toNat : Int)) > 15
  · rw [if_pos h2]; exact ⟨8, rfl, fun e => by omega⟩
  · rw [if_neg h2]; exact ⟨0, rfl, fun _ => ⟨h.1, h.2, by omega⟩⟩
theorem splice_list (o : List Int) (p : Nat) (x : Int) (h : p < o.length) : splice (o.map iD) (0 + p * 1) [dCell (.int .i64 x)] = (o.set p x).map iD := set_list o p x h
/-- The order turned in place. -/
theorem rev_go (l : List Int) (hp : 0 < l.length) (hl : l.length ≤ 1000) (kb : Nat) (cb : List D) (S : Rd → Option Rd) (hS : ∀ ds, S (.next 0 ds) = mirrored_L58_1_S0 l.length (l.map iD) kb cb ds) :
    runR S (.next 0 [iD 0, iD (IntKind.i64.wrap (((0 + l.length : Nat) : Int) - 1)), .list (0 + l.length) (l.map iD)]) = some (.out 0 [.list (0 + l.length) ((mir l).map iD)]) := by
  have e0 : IntKind.i64.wrap (((0 + l.length : Nat) : Int) - 1) = ((l.length - 1 : Nat) : Int) := by rw [wrapJ _ (by omega) (by omega)]; omega
  have h1 : runR S (.next 0 [iD 0, iD ((l.length - 1 - 0 : Nat) : Int), .list (0 + l.length) ((tab l.length fun k => if k < 0 ∨ l.length - 1 - 0 < k then at' l (l.length - 1 - k) else at' l k).map iD)]) = _ :=
    runR_scan (S := S) (fun _ => 0) (fun i => [iD (i : Int), iD ((l.length - 1 - i : Nat) : Int), .list (0 + l.length) ((tab l.length fun k => if k < i ∨ l.length - 1 - i < k then at' l (l.length - 1 - k) else at' l k).map iD)]) (Nat.zero_le (l.length / 2)) (fun i _ hi => by
    show S (.next 0 _) = _
    rw [hS]
    unfold mirrored_L58_1_S0
    rw [pullD_some ((i : Int), ((l.length - 1 - i : Nat) : Int), 0 + l.length, (tab l.length fun k => if k < i ∨ l.length - 1 - i < k then at' l (l.length - 1 - k) else at' l k).map iD) (by rfl) (by rfl)]
    dsimp only
    have e1 : IntKind.i64.wrap ((i : Int) + 1) = ((i + 1 : Nat) : Int) := natI (by omega)
    have e2 : IntKind.i64.wrap (((l.length - 1 - i : Nat) : Int) - 1) = ((l.length - 1 - (i + 1) : Nat) : Int) := by rw [wrapJ _ (by omega) (by omega)]; omega
    simp only [e1, e2, Int.toNat_natCast]
    rw [if_pos (by omega), guardP_pos (by omega), readM0 _ (by omega), pullD_some (at' l (l.length - 1 - i)) (by rw [if_neg (by omega)]) (by rfl), guardP_pos (by omega), readM0 _ (by omega), pullD_some (at' l i) (by rw [if_neg (by omega)]) (by rfl), splice_list _ _ _ (by rw [tab_len]; omega), tab_set,
      guardP_pos ⟨by simp only [List.length_map, tab_len]; omega, cellD_int _⟩, guardP_pos ⟨by simp only [List.length_map, tab_len]; omega, cellD_int _⟩, set_list _ _ _ (by rw [tab_len]; omega), tab_set]
    have h5 : (tab l.length fun j => if j = l.length - 1 - i then at' l i else if j = i then at' l (l.length - 1 - i) else if j < i ∨ l.length - 1 - i < j then at' l (l.length - 1 - j) else at' l j) = tab l.length fun k => if k < i + 1 ∨ l.length - 1 - (i + 1) < k then at' l (l.length - 1 - k) else at' l k := tab_congr fun j hj => by
      by_cases c1 : j = l.length - 1 - i
      · rw [if_pos c1, if_pos (by omega), c1, show l.length - 1 - (l.length - 1 - i) = i by omega]
      · rw [if_neg c1]
        by_cases c2 : j = i
        · rw [if_pos c2, if_pos (by omega), c2]
        · rw [if_neg c2]
          by_cases c3 : j < i ∨ l.length - 1 - i < j
          · rw [if_pos c3, if_pos (by omega)]
          · rw [if_neg c3, if_neg (by omega)]
    rw [h5])
  have h0 : (tab l.length fun k => if k < 0 ∨ l.length - 1 - 0 < k then at' l (l.length - 1 - k) else at' l k) = l := by
    rw [tab_congr (g := at' l) fun k hk => if_neg (by omega), tab_of]
  rw [h0] at h1
  have h3 : (tab l.length fun k => if k < l.length / 2 ∨ l.length - 1 - l.length / 2 < k then at' l (l.length - 1 - k) else at' l k) = mir l := tab_congr fun k hk => by
    by_cases c : k < l.length / 2 ∨ l.length - 1 - l.length / 2 < k
    · rw [if_pos c]
    · rw [if_neg c]
      congr 1
      omega
  rw [e0]
  refine h1.trans (runR_exit ?_)
  rw [hS]
  unfold mirrored_L58_1_S0
  rw [h3, pullD_some (((l.length / 2 : Nat) : Int), ((l.length - 1 - l.length / 2 : Nat) : Int), 0 + l.length, (mir l).map iD) (by rfl) (by rfl)]
  dsimp only
  rw [if_neg (by omega)]
theorem mirrored_eq (h : Win a b) : m_28 [wnD a b] = some (.tup [wnD (mir a) (mir b), iD 0]) := by
  have hp := h.pos
  have hle := h.le
  have hlen := h.len
  rw [m_28_eq]
  unfold mirrored_M
  rw [show [D.agg [D.list a.length (a.map iD), D.list b.length (b.map iD)]] = [wnD a b] from rfl, chkWindow_eq h, pullD_some (0 : Int) (by rfl) (by rfl), if_neg (by decide),
    guardP_pos hp, guardP_pos ⟨cells_int a, Nat.le_refl _, by omega, by omega⟩, guardP_pos (by simp), guardP_pos (by omega), guardP_pos ⟨cells_int b, Nat.le_refl _, by omega, by omega⟩, guardP_pos (by simp),
    bindL_some (rev_go a hp (by omega) b.length (b.map iD) (mirrored_L58_1_S a.length (a.map iD) b.length (b.map iD)) fun _ => rfl), if_pos rfl, pullD_some (0 + a.length, (mir a).map iD) (by rfl) (by rfl)]
  dsimp only
  rw [guardP_pos ⟨by simp only [List.length_map, mir_len]; omega, by omega⟩,
    bindL_some (rev_go b (by omega) (by omega) a.length (a.map iD) (mirrored_L58_1_1_S a.length (a.map iD) b.length (b.map iD) ((mir a).map iD)) fun _ => rfl), if_pos rfl, pullD_some (0 + b.length, (mir b).map iD) (by rfl) (by rfl)]
  dsimp only
  rw [guardP_pos ⟨by simp only [List.length_map, mir_len]; omega, by omega⟩]
  simp only [wnD, lD, mir_len, Nat.zero_add]
theorem go6 (n : Nat) (hn : n ≤ 1000) (f g p q : Nat → Int) (hf : ∀ i, i < n → -1000000000 ≤ f i ∧ f i ≤ 1000000000) (hg : ∀ i, i < n → g (n - 1 - i) = -f i) (hq : ∀ i, i < n → p (n - 1 - i) = q i) (S : Rd → Option Rd)
    (hS : ∀ ds, S (.next 0 ds) = st6 n n ((tab n g).map iD) n ((tab n f).map iD) n ((tab n p).map iD) n ((tab n q).map iD) ds) : runR S (.next 0 [iD 0]) = some (.out 0 []) := by
  have h1 : runR S (.next 0 [iD 0]) = _ := runR_scan (S := S) (fun _ => 0) (fun i => [iD (i : Int)]) (Nat.zero_le n) (fun i _ hi => by
    have b1 := hf i hi
    show S (.next 0 _) = _
    rw [hS]
    unfold st6
    rw [pullD_some (i : Int) (by rfl) (by rfl)]
    have e1 : IntKind.i64.wrap (IntKind.i64.wrap ((n : Int) - 1) - (i : Int)) = ((n - 1 - i : Nat) : Int) := by rw [wrapJ ((n : Int) - 1) (by omega) (by omega), wrapJ _ (by omega) (by omega)]; omega
    have e2 : IntKind.i64.wrap ((i : Int) + 1) = ((i + 1 : Nat) : Int) := natI (by omega)
    simp only [e1, e2, Int.toNat_natCast]
    rw [if_pos (by omega), guardP_pos (by omega), readM _ (by omega), pullD_some (g (n - 1 - i)) (by rfl) (by rfl), guardP_pos (by omega), readM _ hi, pullD_some (f i) (by rfl) (by rfl), wrapJ (0 - f i) (by omega) (by omega), if_neg (by rw [hg i hi]; omega),
      guardP_pos (by omega), readM _ (by omega), pullD_some (p (n - 1 - i)) (by rfl) (by rfl), guardP_pos (by omega), readM _ hi, pullD_some (q i) (by rfl) (by rfl), if_neg (by rw [hq i hi]; simp)])
  refine h1.trans (runR_exit ?_)
  rw [hS]
  unfold st6
  rw [pullD_some (n : Int) (by rfl) (by rfl), if_neg (by omega)]
theorem law6_eq (a b : List Int) (n : Int) : m_6 [wnD a b, iD n] = some (.one (.bool true)) := by
  rw [m_6_eq]
  unfold law6_M
  have fold : ∀ x y : List Int, [D.agg [D.list x.length (x.map iD), D.list y.length (y.map iD)]] = [wnD x y] := fun _ _ => rfl
  rw [m_8_eq, pullB, if_neg (by decide), fold, few_eq, pullB]
  by_cases hf : a.length ≤ 17 ∧ b.length ≤ 17
  rotate_left
  · rw [if_pos (by simpa using hf)]
  rw [if_neg (by simpa using hf)]
  obtain ⟨e, he, hw⟩ := winErr_eq a b
  rw [he, pullI]
  by_cases h0 : e ≠ 0
  · rw [if_pos h0]
  rw [if_neg h0]
  have h := hw (by omega)
  have hle := h.le
  have hlen := h.len
  have hm := mir_win h
  have ml := mir_len a
  have ml2 := mir_len b
  have p4 : ∀ (x y : List Int) {β : Type} (kk : Nat × List D × Nat × List D → Option β), pullD (some (wnD x y)) (fun d => (D.ln (D.at d 0), D.lc (D.at d 0), D.ln (D.at d 1), D.lc (D.at d 1))) (fun (z : Nat × List D × Nat × List D) => match z with | (k6, c7, k8, c9) => D.agg [.list k6 c7, .list k8 c9]) kk = kk (x.length, x.map iD, y.length, y.map iD) := fun x y _ kk => pullD_some (x.length, x.map iD, y.length, y.map iD) rfl rfl
  have p5 : ∀ (x y : List Int) {β : Type} (kk : Nat × List D × Nat × List D × Int → Option β), pullD (some (.tup [.agg [lD x, lD y], iD 0])) (fun d => (D.ln (D.at (D.at d 0) 0), D.lc (D.at (D.at d 0) 0), D.ln (D.at (D.at d 0) 1), D.lc (D.at (D.at d 0) 1), D.vi (D.at d 1))) (fun (z : Nat × List D × Nat × List D × Int) => match z with | (k6, c7, k8, c9, r) => D.tup [.agg [.list k6 c7, .list k8 c9], iD r]) kk = kk (x.length, x.map iD, y.length, y.map iD, 0) := fun x y _ kk => pullD_some (x.length, x.map iD, y.length, y.map iD, 0) rfl rfl
  have cA : m_11 [wnD a b] = some (wnD a b) := copyW_eq a b (by omega) (by omega)
  have cM : m_11 [wnD (mir a) (mir b)] = some (wnD (mir a) (mir b)) := copyW_eq _ _ (by omega) (by omega)
  rw [cA, p4]
  dsimp only
  rw [fold, mirrored_eq h, p5]
  dsimp only
  rw [if_neg (by decide)]
  unfold law6_M_s0
  rw [fold, winErr_ok hm, pullI, if_neg (by decide), if_neg (by omega), cM, p4]
  dsimp only
  rw [fold, mirrored_eq hm, mir_mir, mir_mir, p5]
  dsimp only
  rw [fold, cA, p4]
  dsimp only
  rw [fold, axialOf_eq h, p5]
  dsimp only
  rw [p4]
  dsimp only
  rw [fold, axialOf_eq hm, p5]
  dsimp only
  rw [p4]
  dsimp only
  rw [fold, radialOf_eq h, p5]
  dsimp only
  rw [p4]
  dsimp only
  rw [fold, radialOf_eq hm, p5]
  dsimp only
  rw [if_neg (by decide), show [D.agg [D.list a.length (a.map iD), D.list b.length (b.map iD)], D.agg [D.list a.length (a.map iD), D.list b.length (b.map iD)]] = [wnD a b, wnD a b] from rfl, same_eq a b (by omega) (by omega), pullB, if_neg (by decide)]
  simp only [tab_len, ml]
  rw [if_neg (by decide), if_neg (by decide), if_neg (by decide), if_neg (by decide), if_neg (by simp), if_neg (by simp), if_neg (by simp), if_neg (by simp)]
  rw [bindL_some (go6 a.length (by omega) (ax a a b) (ax (mir a) (mir a) (mir b)) (rx (mir a) (mir b)) (rx a b) (fun i hi => by have := ax_bound h h.ra (i := i) (by omega); omega) (fun i hi => mir_ax h rfl hi) (fun i hi => (mir_rx h hi).1) _ fun _ => rfl), if_pos rfl, pullD_some () (by rfl) (by rfl)]
  rw [if_neg (by simp), if_neg (by simp), if_neg (by simp), if_neg (by simp)]
  rw [bindL_some (go6 a.length (by omega) (ax b a b) (ax (mir b) (mir a) (mir b)) (ry (mir a) (mir b)) (ry a b) (fun i hi => by have := ax_bound h h.rb (i := i) (by omega); omega) (fun i hi => mir_ax h hlen hi) (fun i hi => (mir_rx h hi).2) _ fun _ => rfl), if_pos rfl, pullD_some () (by rfl) (by rfl)]
  obtain ⟨e2, he2, hs⟩ := shiftErr_eq a b n (by omega)
  rw [show [D.agg [D.list a.length (a.map iD), D.list b.length (b.map iD)], iD n] = [wnD a b, iD n] from rfl, he2, pullI]
  by_cases h2 : e2 ≠ 0
  · rw [if_pos h2]
  rw [if_neg h2]
  obtain ⟨n1, n2, n3⟩ := hs (by omega)
  rw [p4]
  dsimp only
  have hpw := pad_win h (x := (-n).toNat) (y := n.toNat) n3
  rw [show [D.agg [D.list a.length (a.map iD), D.list b.length (b.map iD)], iD n] = [wnD a b, iD n] from rfl, shiftedOf_eq h n1 n2 n3, p5]
  dsimp only
  have e3 : IntKind.i64.wrap (0 - n) = -n := by rw [Int.zero_sub]; exact wrapJ _ (by omega) (by omega)
  have ht := shiftedOf_eq hm (n := -n) (by omega) (by omega) (by rw [mir_len, Int.neg_neg]; omega)
  rw [Int.neg_neg] at ht
  rw [e3, show [D.agg [D.list a.length ((mir a).map iD), D.list (mir b).length ((mir b).map iD)], iD (-n)] = [wnD (mir a) (mir b), iD (-n)] by simp only [wnD, lD, ml], ht, p5]
  dsimp only
  rw [if_neg (by decide), if_neg (by decide), fold, winErr_ok hpw, pullI, if_neg (by decide), mirrored_eq hpw, mir_pad, mir_pad, p5]
  dsimp only
  rw [if_pos rfl, show [D.agg [D.list (pad (mir a) n.toNat (-n).toNat).length ((pad (mir a) n.toNat (-n).toNat).map iD), D.list (pad (mir b) (-n).toNat n.toNat).length ((pad (mir b) (-n).toNat n.toNat).map iD)], D.agg [D.list (pad (mir a) n.toNat (-n).toNat).length ((pad (mir a) n.toNat (-n).toNat).map iD), D.list (pad (mir b) (-n).toNat n.toNat).length ((pad (mir b) (-n).toNat n.toNat).map iD)]] = [wnD (pad (mir a) n.toNat (-n).toNat) (pad (mir b) (-n).toNat n.toNat), wnD (pad (mir a) n.toNat (-n).toNat) (pad (mir b) (-n).toNat n.toNat)] from rfl, same_eq _ _ (by rw [pad_len, mir_len]; omega) (by rw [pad_len, mir_len]; omega), pullB]
theorem law6_con (a b : List Int) (n : Int) : Con 6 [.agg [lD a, lD b], .one (.int .i64 n)] (.one (.bool true)) := m_6_ok (law6_eq a b n)
end
end Go.Proofs.Ytbfefnfmdkgfjaa
/- ForceMirrored: what the runs give, for every argument. -/
namespace Go.Proofs.Ytbfefnfmdkgfjaa.forceMirrored
open Go.ChangeShapes Go.WideShapes Go.ChangeAt Go.RowKit Go.Joins Go.Ev
set_option maxRecDepth 100000 in
/-- WHAT THE RUNS GIVE, FOR EVERY ARGUMENT AND EVERY WORLD THAT HOLDS THE TABLES. -/
theorem contract (H : Type) (enc : TypeId × Value → H) (W : World) (base : Nat) (args : Array Value) (ds gs : List (DataW H)) (before : List MemPlace)
    (hval : ∀ (j : Nat) t v, Try.f6.params[j]? = some t → args[j]? = some v → Value.okWide Try.prog W .any base t v)
    (hW : DataW.Whole enc Try.prog Try.f6.params.toList Rows.forceMirroredSpec.vars false W args.toList ds gs before) (hL : laidMetH Try.prog Rows.forceMirroredRow.laid W) :
    Calls Try.prog 6 args W fun e W' => ∃ v, e = .returned v ∧ Rows.forceMirroredSpec.post enc Try.prog Try.f6 false true false false W args v W' := by
  have hW' := hW
  have hlt := hW.lt
  obtain ⟨p, q, hA0, hV, rfl, hfz, hnd⟩ := hW
  have hA : DataW.TrodAll enc Try.prog W 0 (fun _ => true) true Try.f6.params.toList args.toList ds p := hA0
  rw [Try.params6] at hA hval
  obtain ⟨v0, vs0, d0, ds0, p0, q0, hargs, rfl, rfl, h0, r0⟩ := trodAll_cons hA
  obtain ⟨v1, vs1, d1, ds1, p1, q1, rfl, rfl, rfl, h1, r1⟩ := trodAll_cons r0
  obtain ⟨rfl, rfl, rfl⟩ := trodAll_nil r1
  obtain rfl : args = #[v0, v1] := by cases args; simp_all
  obtain ⟨rfl, rfl⟩ := trodVars_none hV
  obtain ⟨e0, o0, k0⟩ := open_agg (ls := [.sl [.int .i64], .sl [.int .i64]]) 8 (by kernel_rfl) (by kernel_rfl) (by kernel_rfl) (hval 0 24 v0 rfl rfl) h0
  obtain ⟨a, b, rfl⟩ := win_of o0
  obtain ⟨e1, o1, k1⟩ := open_cell (c := .int .i64) 8 (by kernel_rfl) (by kernel_rfl) (by kernel_rfl) (hval 1 3 v1 rfl rfl) h1
  obtain ⟨e, rfl, -⟩ := int_of o1
  have hr : RpL (fun _ => True) W [.agg [lD a, lD b], .one (.int .i64 e)] [v0, v1] := by
    simp only [RpL]
    exact ⟨v0, _, rfl, k0, ⟨v1, _, rfl, k1, rfl⟩⟩
  refine (law6_con a b e W (fun _ => True) _ tabs0 hr).mono fun e W' ⟨v, he, hv, hg⟩ => ?_
  simp only [Rp] at hv
  subst he
  subst hv
  have hlaid : laidOutB Try.prog = true := by kernel_rfl
  exact ⟨_, rfl, post_below (pa := (p0 ++ (p1 ++ []))) (pv := []) hW' (fun _ _ _ => trodAll_cons_mk (shut_bool Try.underlying4 _) trodAll_mk0) (fun sp hsp => by
    rw [Try.params6]
    exact trodAll_cons_mk (stays hlaid (by kernel_rfl) (of_decide_eq_true (by kernel_rfl)) h0 hg (fun x hx => hlt x (by simp only [List.mem_append]; left; left; exact hx)) (fun x hx => hsp x (by simp only [List.mem_append]; left; left; exact hx))) (trodAll_cons_mk (stays hlaid (by kernel_rfl) (of_decide_eq_true (by kernel_rfl)) h1 hg (fun x hx => hlt x (by simp only [List.mem_append]; left; right; left; exact hx)) (fun x hx => hsp x (by simp only [List.mem_append]; left; right; left; exact hx))) (trodAll_mk0))) (fun _ _ => rfl) rfl
    hg (ok_one (by kernel_rfl) rfl (okWide_bool_mk Try.underlying4 _))⟩
end Go.Proofs.Ytbfefnfmdkgfjaa.forceMirrored
/- ForceMirrored: closed facts of the witness. -/
namespace Go.Proofs.Ytbfefnfmdkgfjaa.forceMirrored
open Go.ChangeShapes Go.WideShapes Go.ChangeAt Go.RowKit Go.Joins
/-- THE WITNESS's ARGUMENTS. -/
noncomputable def args0 : Array Value := #[.agg #[.slice none 0 0, .slice none 0 0], .int .i64 0]
/-- A WORLD FOR THE WITNESS: the heap that the program's own initialisers leave. -/
noncomputable def start (os : Os) : World := World.doorLaid Try.prog 400 os
theorem laid_met (os : Os) : laidMet Try.prog Rows.forceMirroredRow.laid ((start os).forCall (fun _ _ => 0) ⟨#[], args0, []⟩).memory := ⟨[], rfl, List.nodup_nil, fun _ _ h => by cases h⟩
theorem reads (os : Os) {H : Type} (enc : TypeId × Value → H) : ∃ places, DataW.whole enc Try.prog ((start os).forCall (fun _ _ => 0) ⟨#[], args0, []⟩).memory Try.f6.params.toList Rows.forceMirroredSpec.vars false args0.toList 8 = some ([.agg [.nil, .nil], .lit (.int .i64 0)], [], places) :=
  ⟨[], by kernel_rfl⟩
theorem vB (os : Os) : ((start os).forCall (fun _ _ => 0) ⟨#[], args0, []⟩).variablesB Try.prog = true := by kernel_rfl
theorem rB (os : Os) : (((start os).forCall (fun _ _ => 0) ⟨#[], args0, []⟩).heap.toList.drop Try.prog.globals.size).take ((begin Try.prog (fun _ _ => 0) default).world.heap.size - Try.prog.globals.size) = (begin Try.prog (fun _ _ => 0) default).world.heap.toList.drop Try.prog.globals.size := by kernel_rfl
theorem oB (os : Os) : Input.okWideB Try.prog ((start os).forCall (fun _ _ => 0) ⟨#[], args0, []⟩) 6 ⟨#[], args0, []⟩ = true := by kernel_rfl
theorem hB (os : Os) : (start os).os = os := by kernel_rfl
end Go.Proofs.Ytbfefnfmdkgfjaa.forceMirrored
/- For any window and any shift, valid or not, the law ForceMirrored of the program answers true, and its arguments read as they did. CONDITIONS: none. -/
namespace Go.Proofs.Ytbfefnfmdkgfjaa.forceMirrored
open Go.ChangeShapes Go.WideShapes Go.ChangeAt Go.RowKit Go.Joins
set_option maxRecDepth 100000 in
theorem lifted (os : Os) (started : os.Started) (H : Type) (enc : TypeId × Value → H) (F : Stop.Interp) :
    ReturnsInHanded {} Try.checked os 6 .any ((OpenSpec.ofChange Rows.forceMirroredSpec).preRow enc Try.prog Try.f6 Rows.forceMirroredRow.domain false Rows.forceMirroredRow.laid) (((OpenSpec.ofChange Rows.forceMirroredSpec).at F).post enc Try.prog Try.f6 false true false false) := by
  obtain ⟨places, hx⟩ := reads os enc
  refine returnsInHanded_of_row (C := Try.checked) (s := OpenSpec.ofChange Rows.forceMirroredSpec) own started (by kernel_rfl) Try.func6
    (witness_row_at (enc := enc) (C := Try.checked) false (start os) args0 (hB os) (vB os) (rB os) (oB os)
      (OpenSpec.preRow_of_cond 8 hx (by kernel_rfl) (fun k hk => by cases hk) (by kernel_rfl) (laid_met os))) ?_
  intro W base args ds gs before hval hW _ _ _ hL _ _
  exact contract H enc W base args ds gs before hval hW hL
theorem said : Rows.ForceMirroredSaid :=
  OpenClaim.holds_of_cond 6 Try.f6 rfl rfl rfl rfl rfl rfl rfl ⟨rfl, rfl, rfl, rfl, rfl⟩ rfl rfl rfl rfl rfl (by kernel_rfl) Try.func6 (by kernel_rfl)
    (of_decide_eq_true (by kernel_rfl)) (by unfold Func.isWrapper; first | (rw [if_pos (by decide +kernel)]; kernel_rfl) | (rw [if_neg (by decide +kernel)]; exact ⟨rfl, rfl⟩))
    (fun os started H enc _ F => by rw [OpenClaim.pre_eq_preRow]; exact lifted os started H enc F)
end Go.Proofs.Ytbfefnfmdkgfjaa.forceMirrored
