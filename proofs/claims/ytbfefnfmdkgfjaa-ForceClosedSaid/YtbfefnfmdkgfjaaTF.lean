/- For any window, valid or not, the law ForceClosed of the program answers true, and its argument reads as it did. CONDITIONS: none. -/
import Derived.Test.YtbfefnfmdkgfjaaTD
import Derived.Test.YtbfefnfmdkgfjaaTE
import Derived.Test.YtbfefnfmdkgfjaaTA
set_option linter.unusedVariables false
set_option linter.unusedSimpArgs false
set_option linter.unusedSectionVars false
set_option linter.unnecessarySimpa false
namespace Go.Proofs.Ytbfefnfmdkgfjaa
open Go.Ev Go.RowKit
set_option maxRecDepth 100000
set_option maxHeartbeats 8000000
set_option linter.all false
noncomputable section
def law4_x14_0 : LExit := ⟨some 0, [.val 12], (13 :: (List.range' 90 20))⟩
def law4_x24_0 : LExit := ⟨some 4, [.val 14], (2 :: (16 :: (List.range' 145 46)))⟩
def law4_x24_1 : LExit := ⟨none, [.val 2], (14 :: (16 :: (List.range' 145 46)))⟩
def law4_x30_0 : LExit := ⟨some 6, [], (2 :: (17 :: (18 :: (List.range' 191 31))))⟩
def law4_x30_1 : LExit := ⟨none, [.val 2], (17 :: (18 :: (List.range' 191 31)))⟩
def law4_sp : List LSpec := [⟨4, 14, [law4_x14_0]⟩, ⟨4, 24, [law4_x24_0, law4_x24_1]⟩, ⟨4, 30, [law4_x30_0, law4_x30_1]⟩]
def law4_L30_E (ka : Nat) (ca : List D) (kb : Nat) (cb : List D) (x0 : Bool) (x1 : Bool) (x2 : Int) (x3 : Nat) (x4 : List D) (x5 : Nat) (x6 : List D) (x7 : Nat) (x8 : List D) (x9 : Int) (x10 : Nat) (x11 : List D) (x12 : Nat) (x13 : List D) (x14 : Nat) (x15 : List D) (x16 : Nat) (x17 : List D) (x18 : Int) (x19 : Nat) (x20 : List D) (x21 : Nat) (x22 : List D) (x23 : Nat) (x24 : List D) (x25 : Nat) (x26 : List D) (x27 : Int) (x28 : Nat) (x29 : List D) (x30 : Nat) (x31 : List D) (x32 : Nat) (x33 : List D) (x34 : Nat) (x35 : List D) (x36 : Int) (x37 : Int) (x38 : Int) (x39 : Bool) (x40 : Int) (x41 : Int) : List AV × AHeap := ([.agg [.dsl 0, .dsl 1], .ptr 2 0, .any 92, .pure (.int .i64 (ka : Int)), .dsl 5, .pure (.int .i64 x9), .ptr 10 0, .pure (.int .i64 x18), .ptr 15 0, .pure (.int .i64 x27), .ptr 20 0, .pure (.int .i64 x36), .pure (.bool x39), .any 21, .pure (.int .i64 x41), .pure (.int .i64 (2 : Int)), .any 93, .pure (.int .i64 (0 : Int)), .pure (.tuple #[]), .pure (.bool x0), .pure (.bool !x0), .agg [.dsl 0, .dsl 1], .pure (.bool x1), .pure (.bool !x1), .pure (.bool !x1), .agg [.dsl 0, .dsl 1], .pure (.int .i64 x2), .pure (.bool (x2 != (0 : Int))), .pure (.bool (x2 != (0 : Int))), .ptr 2 0, .dsl 0, .pure (.int .i64 (ka : Int)), .tuple [.dsl 5, .pure (.int .i64 x9)], .agg [.dsl 0, .dsl 1], .agg [.dsl 3, .dsl 4], .tuple [.dsl 5, .pure (.int .i64 x9)], .dsl 5, .pure (.int .i64 x9), .tuple [.agg [.dsl 8, .dsl 9], .pure (.int .i64 x18)], .agg [.dsl 0, .dsl 1], .agg [.dsl 6, .dsl 7], .tuple [.agg [.dsl 8, .dsl 9], .pure (.int .i64 x18)], .agg [.dsl 8, .dsl 9], .pure (.int .i64 x18), .tuple [.agg [.dsl 13, .dsl 14], .pure (.int .i64 x27)], .agg [.dsl 0, .dsl 1], .agg [.dsl 11, .dsl 12], .tuple [.agg [.dsl 13, .dsl 14], .pure (.int .i64 x27)], .agg [.dsl 13, .dsl 14], .pure (.int .i64 x27), .tuple [.agg [.dsl 18, .dsl 19], .pure (.int .i64 x36)], .agg [.dsl 0, .dsl 1], .agg [.dsl 16, .dsl 17], .tuple [.agg [.dsl 18, .dsl 19], .pure (.int .i64 x36)], .agg [.dsl 18, .dsl 19], .pure (.int .i64 x36), .pure (.int .i64 x9), .pure (.bool (x9 != (0 : Int))), .pure (.bool (x9 != (0 : Int))), .pure (.int .i64 x18), .pure (.bool (x18 != (0 : Int))), .pure (.bool (x18 != (0 : Int))), .pure (.bool (x18 != (0 : Int))), .pure (.int .i64 x27), .pure (.bool (x27 != (0 : Int))), .pure (.bool (x27 != (0 : Int))), .pure (.bool (x27 != (0 : Int))), .pure (.int .i64 x36), .pure (.bool (x36 != (0 : Int))), .pure (.bool (x36 != (0 : Int))), .pure (.bool (x36 != (0 : Int))), .dsl 5, .pure (.int .i64 (x7 : Int)), .pure (.int .i64 (ka : Int)), .pure (.int .i64 (IntKind.i64.wrap ((ka : Int) + (1 : Int)))), .pure (.bool ((x7 : Int) != IntKind.i64.wrap ((ka : Int) + (1 : Int)))), .pure (.bool ((x7 : Int) != IntKind.i64.wrap ((ka : Int) + (1 : Int)))), .pure (.bool ((x7 : Int) != IntKind.i64.wrap ((ka : Int) + (1 : Int)))), .dsl 5, .dptr 5 0, .pure (.int .i64 x37), .pure (.bool (x37 != (0 : Int))), .pure (.bool (x37 != (0 : Int))), .pure (.bool (x37 != (0 : Int))), .dsl 5, .pure (.int .i64 (ka : Int)), .dptr 5 (((ka : Int)).toNat * 1), .pure (.int .i64 x38), .pure (.bool (x38 != (0 : Int))), .pure (.bool (x38 != (0 : Int))), .any 22, .any 23, .any 24, .any 25, .any 26, .any 27, .any 28, .any 29, .any 30, .any 31, .any 32, .any 33, .any 34, .any 35, .any 36, .any 37, .any 38, .any 39, .any 40, .any 41, .pure (.int .i64 (2 : Int)), .pure (.bool false), .pure (.int .i64 (1 : Int)), .pure (.int .i64 (2 : Int)), .pure (.int .i64 (1 : Int)), .ptr 10 1, .dsl 9, .pure (.int .i64 (x16 : Int)), .pure (.int .i64 (ka : Int)), .pure (.bool ((x16 : Int) != (ka : Int))), .pure (.bool ((x16 : Int) != (ka : Int))), .pure (.int .i64 (1 : Int)), .ptr 15 1, .dsl 14, .pure (.int .i64 (x25 : Int)), .pure (.int .i64 (ka : Int)), .pure (.int .i64 (IntKind.i64.wrap ((ka : Int) + (1 : Int)))), .pure (.bool ((x25 : Int) != IntKind.i64.wrap ((ka : Int) + (1 : Int)))), .pure (.bool ((x25 : Int) != IntKind.i64.wrap ((ka : Int) + (1 : Int)))), .pure (.bool ((x25 : Int) != IntKind.i64.wrap ((ka : Int) + (1 : Int)))), .pure (.int .i64 (1 : Int)), .ptr 20 1, .dsl 19, .pure (.int .i64 (x34 : Int)), .pure (.int .i64 (ka : Int)), .pure (.bool ((x34 : Int) != (ka : Int))), .pure (.bool ((x34 : Int) != (ka : Int))), .pure (.bool ((x34 : Int) != (ka : Int))), .pure (.int .i64 (1 : Int)), .ptr 15 1, .dsl 14, .dptr 14 0, .pure (.int .i64 x40), .pure (.bool (x40 != (0 : Int))), .pure (.bool (x40 != (0 : Int))), .any 94, .any 95, .any 96, .any 97, .any 98, .any 99, .any 100, .any 101, .any 102, .any 103, .any 104, .any 105, .any 106, .any 107, .any 108, .any 109, .any 110, .any 111, .any 112, .any 113, .any 114, .any 115, .any 116, .any 117, .any 118, .any 119, .any 120, .any 121, .any 122, .any 123, .any 124, .any 125, .any 126, .any 127, .any 128, .any 129, .any 130, .any 131, .any 132, .any 133, .any 134, .any 135, .any 136, .any 137, .any 138, .any 139, .pure (.tuple #[]), .pure (.tuple #[]), .pure (.tuple #[]), .pure (.tuple #[]), .pure (.tuple #[]), .pure (.tuple #[]), .pure (.tuple #[]), .pure (.tuple #[]), .pure (.tuple #[]), .pure (.tuple #[]), .pure (.tuple #[]), .pure (.tuple #[]), .pure (.tuple #[]), .pure (.tuple #[]), .pure (.tuple #[]), .pure (.tuple #[]), .pure (.tuple #[]), .pure (.tuple #[]), .pure (.tuple #[]), .pure (.tuple #[]), .pure (.tuple #[]), .pure (.tuple #[]), .pure (.tuple #[]), .pure (.tuple #[]), .pure (.tuple #[]), .pure (.tuple #[]), .pure (.tuple #[]), .pure (.tuple #[]), .pure (.tuple #[]), .pure (.tuple #[]), .pure (.tuple #[]), .pure (.tuple #[]), .pure (.tuple #[])], [(20, { cells := [.dsl 18, .dsl 19], opn := none, kind := .cells }), (19, { cells := [], opn := none, kind := .deep x34 x35 }), (18, { cells := [], opn := none, kind := .deep x32 x33 }), (17, { cells := [], opn := none, kind := .deep x30 x31 }), (16, { cells := [], opn := none, kind := .deep x28 x29 }), (15, { cells := [.dsl 13, .dsl 14], opn := none, kind := .cells }), (14, { cells := [], opn := none, kind := .deep x25 x26 }), (13, { cells := [], opn := none, kind := .deep x23 x24 }), (12, { cells := [], opn := none, kind := .deep x21 x22 }), (11, { cells := [], opn := none, kind := .deep x19 x20 }), (10, { cells := [.dsl 8, .dsl 9], opn := none, kind := .cells }), (9, { cells := [], opn := none, kind := .deep x16 x17 }), (8, { cells := [], opn := none, kind := .deep x14 x15 }), (7, { cells := [], opn := none, kind := .deep x12 x13 }), (6, { cells := [], opn := none, kind := .deep x10 x11 }), (5, { cells := [], opn := none, kind := .deep x7 x8 }), (4, { cells := [], opn := none, kind := .deep x5 x6 }), (3, { cells := [], opn := none, kind := .deep x3 x4 }), (2, { cells := [.dsl 0, .dsl 1], opn := none, kind := .cells }), (1, { cells := [], opn := none, kind := .deep kb cb }), (0, { cells := [], opn := none, kind := .deep ka ca })])
def law4_L30_A : LoopAt := ⟨4, loopAt Try.prog 4 3, 141, 175, 141, noFrame⟩
theorem law4_L30_ok : (law4_L30_A).OK := ⟨by show 141 ≤ 175; decide, by show 141 ≤ 141; decide, by kernel_rfl, rfl⟩
def law4_L30_gs (ka : Nat) (ca : List D) (kb : Nat) (cb : List D) (x0 : Bool) (x1 : Bool) (x2 : Int) (x3 : Nat) (x4 : List D) (x5 : Nat) (x6 : List D) (x7 : Nat) (x8 : List D) (x9 : Int) (x10 : Nat) (x11 : List D) (x12 : Nat) (x13 : List D) (x14 : Nat) (x15 : List D) (x16 : Nat) (x17 : List D) (x18 : Int) (x19 : Nat) (x20 : List D) (x21 : Nat) (x22 : List D) (x23 : Nat) (x24 : List D) (x25 : Nat) (x26 : List D) (x27 : Int) (x28 : Nat) (x29 : List D) (x30 : Nat) (x31 : List D) (x32 : Nat) (x33 : List D) (x34 : Nat) (x35 : List D) (x36 : Int) (x37 : Int) (x38 : Int) (x39 : Bool) (x40 : Int) (x41 : Int) : Go.Ev.Rd → Option GS
  | .next 0 ds => ghost [.val 17] (2 :: (18 :: (List.range' 191 31))) (law4_L30_E ka ca kb cb x0 x1 x2 x3 x4 x5 x6 x7 x8 x9 x10 x11 x12 x13 x14 x15 x16 x17 x18 x19 x20 x21 x22 x23 x24 x25 x26 x27 x28 x29 x30 x31 x32 x33 x34 x35 x36 x37 x38 x39 x40 x41).1 (law4_L30_E ka ca kb cb x0 x1 x2 x3 x4 x5 x6 x7 x8 x9 x10 x11 x12 x13 x14 x15 x16 x17 x18 x19 x20 x21 x22 x23 x24 x25 x26 x27 x28 x29 x30 x31 x32 x33 x34 x35 x36 x37 x38 x39 x40 x41).2 141 ds
  | .out 0 ds => ghost law4_x30_0.live law4_x30_0.junk (law4_L30_E ka ca kb cb x0 x1 x2 x3 x4 x5 x6 x7 x8 x9 x10 x11 x12 x13 x14 x15 x16 x17 x18 x19 x20 x21 x22 x23 x24 x25 x26 x27 x28 x29 x30 x31 x32 x33 x34 x35 x36 x37 x38 x39 x40 x41).1 (law4_L30_E ka ca kb cb x0 x1 x2 x3 x4 x5 x6 x7 x8 x9 x10 x11 x12 x13 x14 x15 x16 x17 x18 x19 x20 x21 x22 x23 x24 x25 x26 x27 x28 x29 x30 x31 x32 x33 x34 x35 x36 x37 x38 x39 x40 x41).2 141 ds
  | .out 1 ds => ghost law4_x30_1.live law4_x30_1.junk (law4_L30_E ka ca kb cb x0 x1 x2 x3 x4 x5 x6 x7 x8 x9 x10 x11 x12 x13 x14 x15 x16 x17 x18 x19 x20 x21 x22 x23 x24 x25 x26 x27 x28 x29 x30 x31 x32 x33 x34 x35 x36 x37 x38 x39 x40 x41).1 (law4_L30_E ka ca kb cb x0 x1 x2 x3 x4 x5 x6 x7 x8 x9 x10 x11 x12 x13 x14 x15 x16 x17 x18 x19 x20 x21 x22 x23 x24 x25 x26 x27 x28 x29 x30 x31 x32 x33 x34 x35 x36 x37 x38 x39 x40 x41).2 141 ds
  | _ => none
def law4_L30_ex : Nat → Option Nat
  | 0 => law4_x30_0.ex
  | 1 => law4_x30_1.ex
  | _ => none
def law4_L30_ax : Go.Ev.Rd → AX
  | .next _ _ => .normal
  | .out j _ => axOf (law4_L30_ex j)
def law4_L30_S0 (ka : Nat) (ca : List D) (kb : Nat) (cb : List D) (x0 : Bool) (x1 : Bool) (x2 : Int) (x3 : Nat) (x4 : List D) (x5 : Nat) (x6 : List D) (x7 : Nat) (x8 : List D) (x9 : Int) (x10 : Nat) (x11 : List D) (x12 : Nat) (x13 : List D) (x14 : Nat) (x15 : List D) (x16 : Nat) (x17 : List D) (x18 : Int) (x19 : Nat) (x20 : List D) (x21 : Nat) (x22 : List D) (x23 : Nat) (x24 : List D) (x25 : Nat) (x26 : List D) (x27 : Int) (x28 : Nat) (x29 : List D) (x30 : Nat) (x31 : List D) (x32 : Nat) (x33 : List D) (x34 : Nat) (x35 : List D) (x36 : Int) (x37 : Int) (x38 : Int) (x39 : Bool) (x40 : Int) (x41 : Int) (ds : List D) : Option Go.Ev.Rd := pullD (α := Int) (some (.tup ds)) (fun d => ((D.vi (D.at d 0)))) (fun s17 => .tup [iD s17]) fun s17 => ((if s17 < (ka : Int) then guardP ((0 : Int) ≤ s17 ∧ s17.toNat < ka) (pullD (α := Int) (readD ca (s17.toNat * 1) 1 false) (fun d => ((D.vi d))) (fun v0 => iD v0) fun v0 => (guardP ((0 : Int) ≤ s17 ∧ s17.toNat < kb) (pullD (α := Int) (readD cb (s17.toNat * 1) 1 false) (fun d => ((D.vi d))) (fun v1 => iD v1) fun v1 => (guardP ((0 : Int) ≤ s17 ∧ s17.toNat < x32) (pullD (α := Int) (readD x33 (s17.toNat * 1) 1 false) (fun d => ((D.vi d))) (fun v2 => iD v2) fun v2 => (guardP ((0 : Int) ≤ s17 ∧ s17.toNat < x34) (pullD (α := Int) (readD x35 (s17.toNat * 1) 1 false) (fun d => ((D.vi d))) (fun v3 => iD v3) fun v3 => ((if IntKind.i64.wrap (v2 + v3) ≠ IntKind.i64.wrap (IntKind.i64.wrap (v0 - v1) * IntKind.i64.wrap (v0 - v1)) then some (.out 1 [.one (.bool false)]) else some (.next 0 [iD (IntKind.i64.wrap (s17 + (1 : Int)))])))))))))) else some (.out 0 [])))
def law4_L30_S (ka : Nat) (ca : List D) (kb : Nat) (cb : List D) (x0 : Bool) (x1 : Bool) (x2 : Int) (x3 : Nat) (x4 : List D) (x5 : Nat) (x6 : List D) (x7 : Nat) (x8 : List D) (x9 : Int) (x10 : Nat) (x11 : List D) (x12 : Nat) (x13 : List D) (x14 : Nat) (x15 : List D) (x16 : Nat) (x17 : List D) (x18 : Int) (x19 : Nat) (x20 : List D) (x21 : Nat) (x22 : List D) (x23 : Nat) (x24 : List D) (x25 : Nat) (x26 : List D) (x27 : Int) (x28 : Nat) (x29 : List D) (x30 : Nat) (x31 : List D) (x32 : Nat) (x33 : List D) (x34 : Nat) (x35 : List D) (x36 : Int) (x37 : Int) (x38 : Int) (x39 : Bool) (x40 : Int) (x41 : Int) : Go.Ev.Rd → Option Go.Ev.Rd
  | .next 0 ds => law4_L30_S0 ka ca kb cb x0 x1 x2 x3 x4 x5 x6 x7 x8 x9 x10 x11 x12 x13 x14 x15 x16 x17 x18 x19 x20 x21 x22 x23 x24 x25 x26 x27 x28 x29 x30 x31 x32 x33 x34 x35 x36 x37 x38 x39 x40 x41 ds
  | _ => none
theorem law4_L30_S_ok (ka : Nat) (ca : List D) (kb : Nat) (cb : List D) (x0 : Bool) (x1 : Bool) (x2 : Int) (x3 : Nat) (x4 : List D) (x5 : Nat) (x6 : List D) (x7 : Nat) (x8 : List D) (x9 : Int) (x10 : Nat) (x11 : List D) (x12 : Nat) (x13 : List D) (x14 : Nat) (x15 : List D) (x16 : Nat) (x17 : List D) (x18 : Int) (x19 : Nat) (x20 : List D) (x21 : Nat) (x22 : List D) (x23 : Nat) (x24 : List D) (x25 : Nat) (x26 : List D) (x27 : Int) (x28 : Nat) (x29 : List D) (x30 : Nat) (x31 : List D) (x32 : Nat) (x33 : List D) (x34 : Nat) (x35 : List D) (x36 : Int) (x37 : Int) (x38 : Int) (x39 : Bool) (x40 : Int) (x41 : Int) : ∀ s_ t_, law4_L30_S ka ca kb cb x0 x1 x2 x3 x4 x5 x6 x7 x8 x9 x10 x11 x12 x13 x14 x15 x16 x17 x18 x19 x20 x21 x22 x23 x24 x25 x26 x27 x28 x29 x30 x31 x32 x33 x34 x35 x36 x37 x38 x39 x40 x41 s_ = some t_ → Step (ctx [4] law4_sp) Tabs law4_L30_A (stateOf (law4_L30_gs ka ca kb cb x0 x1 x2 x3 x4 x5 x6 x7 x8 x9 x10 x11 x12 x13 x14 x15 x16 x17 x18 x19 x20 x21 x22 x23 x24 x25 x26 x27 x28 x29 x30 x31 x32 x33 x34 x35 x36 x37 x38 x39 x40 x41 s_)) (stateOf (law4_L30_gs ka ca kb cb x0 x1 x2 x3 x4 x5 x6 x7 x8 x9 x10 x11 x12 x13 x14 x15 x16 x17 x18 x19 x20 x21 x22 x23 x24 x25 x26 x27 x28 x29 x30 x31 x32 x33 x34 x35 x36 x37 x38 x39 x40 x41 t_)) (law4_L30_ax t_) ∧ EndOK law4_L30_A.nx law4_L30_A.low (law4_L30_gs ka ca kb cb x0 x1 x2 x3 x4 x5 x6 x7 x8 x9 x10 x11 x12 x13 x14 x15 x16 x17 x18 x19 x20 x21 x22 x23 x24 x25 x26 x27 x28 x29 x30 x31 x32 x33 x34 x35 x36 x37 x38 x39 x40 x41) t_
  | .next 0 ds, t_, h => by
    have h_ : law4_L30_S0 ka ca kb cb x0 x1 x2 x3 x4 x5 x6 x7 x8 x9 x10 x11 x12 x13 x14 x15 x16 x17 x18 x19 x20 x21 x22 x23 x24 x25 x26 x27 x28 x29 x30 x31 x32 x33 x34 x35 x36 x37 x38 x39 x40 x41 ds = some t_ := h
    clear h
    unfold law4_L30_S0 at h_
    obtain ⟨s17, e0, h0⟩ := pullD_elim h_
    clear h_
    obtain rfl := tup_inj e0
    by_cases b1_ : s17 < (ka : Int)
    · have h2_ := (if_pos b1_).symm.trans h0
      obtain ⟨f3_, h4_⟩ := guardP_elim h2_
      obtain ⟨v0, f5_, h6_⟩ := pullD_elim h4_
      replace f5_ := readD_elim f5_
      obtain ⟨f7_, h8_⟩ := guardP_elim h6_
      obtain ⟨v1, f9_, h10_⟩ := pullD_elim h8_
      replace f9_ := readD_elim f9_
      obtain ⟨f11_, h12_⟩ := guardP_elim h10_
      obtain ⟨v2, f13_, h14_⟩ := pullD_elim h12_
      replace f13_ := readD_elim f13_
      obtain ⟨f15_, h16_⟩ := guardP_elim h14_
      obtain ⟨v3, f17_, h18_⟩ := pullD_elim h16_
      replace f17_ := readD_elim f17_
      by_cases b19_ : IntKind.i64.wrap (v2 + v3) ≠ IntKind.i64.wrap (IntKind.i64.wrap (v0 - v1) * IntKind.i64.wrap (v0 - v1))
      · have h20_ := (if_pos b19_).symm.trans h18_
        obtain rfl := Option.some.inj h20_
        exact ⟨step_pc 3000 (bT 2 []) [iD v0, iD v1, iD v2, iD v3] [c_d b1_, c_f f3_, c_f f5_, c_f f7_, c_f f9_, c_f f11_, c_f f13_, c_f f15_, c_f f17_, c_b b19_] [] _ rfl (by kernel_rfl) (by kernel_rfl) (by kernel_rfl) (by kernel_rfl) (by kernel_rfl) (by kernel_rfl), by kernel_rfl, by kernel_rfl⟩
      have h20_ := (if_neg b19_).symm.trans h18_
      have b21_ : IntKind.i64.wrap (v2 + v3) = IntKind.i64.wrap (IntKind.i64.wrap (v0 - v1) * IntKind.i64.wrap (v0 - v1)) := by first | exact b19_ | simpa using b19_
      obtain rfl := Option.some.inj h20_
      exact ⟨step_pc 3000 (bT 1 (bF 1 [])) [iD v0, iD v1, iD v2, iD v3] [c_d b1_, c_f f3_, c_f f5_, c_f f7_, c_f f9_, c_f f11_, c_f f13_, c_f f15_, c_f f17_, c_bn b21_] [] _ rfl (by kernel_rfl) (by kernel_rfl) (by kernel_rfl) (by kernel_rfl) (by kernel_rfl) (by kernel_rfl), trivial⟩
    have h2_ := (if_neg b1_).symm.trans h0
    obtain rfl := Option.some.inj h2_
    exact ⟨step_pc 3000 (bF 1 []) [] [c_n b1_] [] _ rfl (by kernel_rfl) (by kernel_rfl) (by kernel_rfl) (by kernel_rfl) (by kernel_rfl) (by kernel_rfl), by kernel_rfl, by kernel_rfl⟩
  | .next (_ + 1) _, _, h => by cases h
  | .out _ _, _, h => by cases h
theorem law4_L30_go (ka : Nat) (ca : List D) (kb : Nat) (cb : List D) (x0 : Bool) (x1 : Bool) (x2 : Int) (x3 : Nat) (x4 : List D) (x5 : Nat) (x6 : List D) (x7 : Nat) (x8 : List D) (x9 : Int) (x10 : Nat) (x11 : List D) (x12 : Nat) (x13 : List D) (x14 : Nat) (x15 : List D) (x16 : Nat) (x17 : List D) (x18 : Int) (x19 : Nat) (x20 : List D) (x21 : Nat) (x22 : List D) (x23 : Nat) (x24 : List D) (x25 : Nat) (x26 : List D) (x27 : Int) (x28 : Nat) (x29 : List D) (x30 : Nat) (x31 : List D) (x32 : Nat) (x33 : List D) (x34 : Nat) (x35 : List D) (x36 : Int) (x37 : Int) (x38 : Int) (x39 : Bool) (x40 : Int) (x41 : Int) {q : Nat} {ds : List D} {j : Nat} {es : List D} (h : runR (law4_L30_S ka ca kb cb x0 x1 x2 x3 x4 x5 x6 x7 x8 x9 x10 x11 x12 x13 x14 x15 x16 x17 x18 x19 x20 x21 x22 x23 x24 x25 x26 x27 x28 x29 x30 x31 x32 x33 x34 x35 x36 x37 x38 x39 x40 x41) (.next q ds) = some (.out j es)) : Runs (ctx [4] law4_sp) Tabs law4_L30_A (stateOf (law4_L30_gs ka ca kb cb x0 x1 x2 x3 x4 x5 x6 x7 x8 x9 x10 x11 x12 x13 x14 x15 x16 x17 x18 x19 x20 x21 x22 x23 x24 x25 x26 x27 x28 x29 x30 x31 x32 x33 x34 x35 x36 x37 x38 x39 x40 x41 (.next q ds))) (stateOf (law4_L30_gs ka ca kb cb x0 x1 x2 x3 x4 x5 x6 x7 x8 x9 x10 x11 x12 x13 x14 x15 x16 x17 x18 x19 x20 x21 x22 x23 x24 x25 x26 x27 x28 x29 x30 x31 x32 x33 x34 x35 x36 x37 x38 x39 x40 x41 (.out j es))) (law4_L30_ax (.out j es)) ∧ (nxtOf (law4_L30_gs ka ca kb cb x0 x1 x2 x3 x4 x5 x6 x7 x8 x9 x10 x11 x12 x13 x14 x15 x16 x17 x18 x19 x20 x21 x22 x23 x24 x25 x26 x27 x28 x29 x30 x31 x32 x33 x34 x35 x36 x37 x38 x39 x40 x41 (.out j es)), lowGS (law4_L30_gs ka ca kb cb x0 x1 x2 x3 x4 x5 x6 x7 x8 x9 x10 x11 x12 x13 x14 x15 x16 x17 x18 x19 x20 x21 x22 x23 x24 x25 x26 x27 x28 x29 x30 x31 x32 x33 x34 x35 x36 x37 x38 x39 x40 x41 (.out j es))) = (law4_L30_A.nx, law4_L30_A.low) :=
  runs_of' (good true _ _) law4_L30_ok (ax := law4_L30_ax) (fun _ _ => rfl) (fun _ _ => axOf_end _) (law4_L30_S_ok ka ca kb cb x0 x1 x2 x3 x4 x5 x6 x7 x8 x9 x10 x11 x12 x13 x14 x15 x16 x17 x18 x19 x20 x21 x22 x23 x24 x25 x26 x27 x28 x29 x30 x31 x32 x33 x34 x35 x36 x37 x38 x39 x40 x41) h
theorem law4_L30_in0 (ka : Nat) (ca : List D) (kb : Nat) (cb : List D) (x0 : Bool) (x1 : Bool) (x2 : Int) (x3 : Nat) (x4 : List D) (x5 : Nat) (x6 : List D) (x7 : Nat) (x8 : List D) (x9 : Int) (x10 : Nat) (x11 : List D) (x12 : Nat) (x13 : List D) (x14 : Nat) (x15 : List D) (x16 : Nat) (x17 : List D) (x18 : Int) (x19 : Nat) (x20 : List D) (x21 : Nat) (x22 : List D) (x23 : Nat) (x24 : List D) (x25 : Nat) (x26 : List D) (x27 : Int) (x28 : Nat) (x29 : List D) (x30 : Nat) (x31 : List D) (x32 : Nat) (x33 : List D) (x34 : Nat) (x35 : List D) (x36 : Int) (x37 : Int) (x38 : Int) (x39 : Bool) (x40 : Int) (x41 : Int) {es : List D} (h : runR (law4_L30_S ka ca kb cb x0 x1 x2 x3 x4 x5 x6 x7 x8 x9 x10 x11 x12 x13 x14 x15 x16 x17 x18 x19 x20 x21 x22 x23 x24 x25 x26 x27 x28 x29 x30 x31 x32 x33 x34 x35 x36 x37 x38 x39 x40 x41) (.next 0 [iD ((0 : Int))]) = some (.out 0 es)) : LoopC (loopAt Try.prog 4 3) (law4_L30_E ka ca kb cb x0 x1 x2 x3 x4 x5 x6 x7 x8 x9 x10 x11 x12 x13 x14 x15 x16 x17 x18 x19 x20 x21 x22 x23 x24 x25 x26 x27 x28 x29 x30 x31 x32 x33 x34 x35 x36 x37 x38 x39 x40 x41) 141 noFrame law4_x30_0 es :=
  have r := law4_L30_go ka ca kb cb x0 x1 x2 x3 x4 x5 x6 x7 x8 x9 x10 x11 x12 x13 x14 x15 x16 x17 x18 x19 x20 x21 x22 x23 x24 x25 x26 x27 x28 x29 x30 x31 x32 x33 x34 x35 x36 x37 x38 x39 x40 x41 h
  loopin_as rfl (loop_in (l := law4_L30_A) (E := (law4_L30_E ka ca kb cb x0 x1 x2 x3 x4 x5 x6 x7 x8 x9 x10 x11 x12 x13 x14 x15 x16 x17 x18 x19 x20 x21 x22 x23 x24 x25 x26 x27 x28 x29 x30 x31 x32 x33 x34 x35 x36 x37 x38 x39 x40 x41)) (S := stateOf (law4_L30_gs ka ca kb cb x0 x1 x2 x3 x4 x5 x6 x7 x8 x9 x10 x11 x12 x13 x14 x15 x16 x17 x18 x19 x20 x21 x22 x23 x24 x25 x26 x27 x28 x29 x30 x31 x32 x33 x34 x35 x36 x37 x38 x39 x40 x41 (.next 0 [iD ((0 : Int))]))) (ns := nsOf (law4_L30_gs ka ca kb cb x0 x1 x2 x3 x4 x5 x6 x7 x8 x9 x10 x11 x12 x13 x14 x15 x16 x17 x18 x19 x20 x21 x22 x23 x24 x25 x26 x27 x28 x29 x30 x31 x32 x33 x34 x35 x36 x37 x38 x39 x40 x41 (.next 0 [iD ((0 : Int))]))) law4_L30_ok r.1 r.2 (by kernel_rfl) (by kernel_rfl) (by kernel_rfl) (by kernel_rfl))
theorem law4_L30_in1 (ka : Nat) (ca : List D) (kb : Nat) (cb : List D) (x0 : Bool) (x1 : Bool) (x2 : Int) (x3 : Nat) (x4 : List D) (x5 : Nat) (x6 : List D) (x7 : Nat) (x8 : List D) (x9 : Int) (x10 : Nat) (x11 : List D) (x12 : Nat) (x13 : List D) (x14 : Nat) (x15 : List D) (x16 : Nat) (x17 : List D) (x18 : Int) (x19 : Nat) (x20 : List D) (x21 : Nat) (x22 : List D) (x23 : Nat) (x24 : List D) (x25 : Nat) (x26 : List D) (x27 : Int) (x28 : Nat) (x29 : List D) (x30 : Nat) (x31 : List D) (x32 : Nat) (x33 : List D) (x34 : Nat) (x35 : List D) (x36 : Int) (x37 : Int) (x38 : Int) (x39 : Bool) (x40 : Int) (x41 : Int) {es : List D} (h : runR (law4_L30_S ka ca kb cb x0 x1 x2 x3 x4 x5 x6 x7 x8 x9 x10 x11 x12 x13 x14 x15 x16 x17 x18 x19 x20 x21 x22 x23 x24 x25 x26 x27 x28 x29 x30 x31 x32 x33 x34 x35 x36 x37 x38 x39 x40 x41) (.next 0 [iD ((0 : Int))]) = some (.out 1 es)) : LoopC (loopAt Try.prog 4 3) (law4_L30_E ka ca kb cb x0 x1 x2 x3 x4 x5 x6 x7 x8 x9 x10 x11 x12 x13 x14 x15 x16 x17 x18 x19 x20 x21 x22 x23 x24 x25 x26 x27 x28 x29 x30 x31 x32 x33 x34 x35 x36 x37 x38 x39 x40 x41) 141 noFrame law4_x30_1 es :=
  have r := law4_L30_go ka ca kb cb x0 x1 x2 x3 x4 x5 x6 x7 x8 x9 x10 x11 x12 x13 x14 x15 x16 x17 x18 x19 x20 x21 x22 x23 x24 x25 x26 x27 x28 x29 x30 x31 x32 x33 x34 x35 x36 x37 x38 x39 x40 x41 h
  loopin_as rfl (loop_in (l := law4_L30_A) (E := (law4_L30_E ka ca kb cb x0 x1 x2 x3 x4 x5 x6 x7 x8 x9 x10 x11 x12 x13 x14 x15 x16 x17 x18 x19 x20 x21 x22 x23 x24 x25 x26 x27 x28 x29 x30 x31 x32 x33 x34 x35 x36 x37 x38 x39 x40 x41)) (S := stateOf (law4_L30_gs ka ca kb cb x0 x1 x2 x3 x4 x5 x6 x7 x8 x9 x10 x11 x12 x13 x14 x15 x16 x17 x18 x19 x20 x21 x22 x23 x24 x25 x26 x27 x28 x29 x30 x31 x32 x33 x34 x35 x36 x37 x38 x39 x40 x41 (.next 0 [iD ((0 : Int))]))) (ns := nsOf (law4_L30_gs ka ca kb cb x0 x1 x2 x3 x4 x5 x6 x7 x8 x9 x10 x11 x12 x13 x14 x15 x16 x17 x18 x19 x20 x21 x22 x23 x24 x25 x26 x27 x28 x29 x30 x31 x32 x33 x34 x35 x36 x37 x38 x39 x40 x41 (.next 0 [iD ((0 : Int))]))) law4_L30_ok r.1 r.2 (by kernel_rfl) (by kernel_rfl) (by kernel_rfl) (by kernel_rfl))
def law4_L24_2_E (ka : Nat) (ca : List D) (kb : Nat) (cb : List D) (x0 : Bool) (x1 : Bool) (x2 : Int) (x3 : Nat) (x4 : List D) (x5 : Nat) (x6 : List D) (x7 : Nat) (x8 : List D) (x9 : Int) (x10 : Nat) (x11 : List D) (x12 : Nat) (x13 : List D) (x14 : Nat) (x15 : List D) (x16 : Nat) (x17 : List D) (x18 : Int) (x19 : Nat) (x20 : List D) (x21 : Nat) (x22 : List D) (x23 : Nat) (x24 : List D) (x25 : Nat) (x26 : List D) (x27 : Int) (x28 : Nat) (x29 : List D) (x30 : Nat) (x31 : List D) (x32 : Nat) (x33 : List D) (x34 : Nat) (x35 : List D) (x36 : Int) (x37 : Int) (x38 : Int) (x39 : Bool) (x40 : Int) (x41 : Int) : List AV × AHeap := ([.agg [.dsl 0, .dsl 1], .ptr 2 0, .any 43, .pure (.int .i64 (ka : Int)), .dsl 5, .pure (.int .i64 x9), .ptr 10 0, .pure (.int .i64 x18), .ptr 15 0, .pure (.int .i64 x27), .ptr 20 0, .pure (.int .i64 x36), .pure (.bool x39), .any 21, .pure (.int .i64 x40), .pure (.int .i64 (1 : Int)), .pure (.int .i64 (0 : Int)), .pure (.tuple #[]), .pure (.tuple #[]), .pure (.bool x0), .pure (.bool !x0), .agg [.dsl 0, .dsl 1], .pure (.bool x1), .pure (.bool !x1), .pure (.bool !x1), .agg [.dsl 0, .dsl 1], .pure (.int .i64 x2), .pure (.bool (x2 != (0 : Int))), .pure (.bool (x2 != (0 : Int))), .ptr 2 0, .dsl 0, .pure (.int .i64 (ka : Int)), .tuple [.dsl 5, .pure (.int .i64 x9)], .agg [.dsl 0, .dsl 1], .agg [.dsl 3, .dsl 4], .tuple [.dsl 5, .pure (.int .i64 x9)], .dsl 5, .pure (.int .i64 x9), .tuple [.agg [.dsl 8, .dsl 9], .pure (.int .i64 x18)], .agg [.dsl 0, .dsl 1], .agg [.dsl 6, .dsl 7], .tuple [.agg [.dsl 8, .dsl 9], .pure (.int .i64 x18)], .agg [.dsl 8, .dsl 9], .pure (.int .i64 x18), .tuple [.agg [.dsl 13, .dsl 14], .pure (.int .i64 x27)], .agg [.dsl 0, .dsl 1], .agg [.dsl 11, .dsl 12], .tuple [.agg [.dsl 13, .dsl 14], .pure (.int .i64 x27)], .agg [.dsl 13, .dsl 14], .pure (.int .i64 x27), .tuple [.agg [.dsl 18, .dsl 19], .pure (.int .i64 x36)], .agg [.dsl 0, .dsl 1], .agg [.dsl 16, .dsl 17], .tuple [.agg [.dsl 18, .dsl 19], .pure (.int .i64 x36)], .agg [.dsl 18, .dsl 19], .pure (.int .i64 x36), .pure (.int .i64 x9), .pure (.bool (x9 != (0 : Int))), .pure (.bool (x9 != (0 : Int))), .pure (.int .i64 x18), .pure (.bool (x18 != (0 : Int))), .pure (.bool (x18 != (0 : Int))), .pure (.bool (x18 != (0 : Int))), .pure (.int .i64 x27), .pure (.bool (x27 != (0 : Int))), .pure (.bool (x27 != (0 : Int))), .pure (.bool (x27 != (0 : Int))), .pure (.int .i64 x36), .pure (.bool (x36 != (0 : Int))), .pure (.bool (x36 != (0 : Int))), .pure (.bool (x36 != (0 : Int))), .dsl 5, .pure (.int .i64 (x7 : Int)), .pure (.int .i64 (ka : Int)), .pure (.int .i64 (IntKind.i64.wrap ((ka : Int) + (1 : Int)))), .pure (.bool ((x7 : Int) != IntKind.i64.wrap ((ka : Int) + (1 : Int)))), .pure (.bool ((x7 : Int) != IntKind.i64.wrap ((ka : Int) + (1 : Int)))), .pure (.bool ((x7 : Int) != IntKind.i64.wrap ((ka : Int) + (1 : Int)))), .dsl 5, .dptr 5 0, .pure (.int .i64 x37), .pure (.bool (x37 != (0 : Int))), .pure (.bool (x37 != (0 : Int))), .pure (.bool (x37 != (0 : Int))), .dsl 5, .pure (.int .i64 (ka : Int)), .dptr 5 (((ka : Int)).toNat * 1), .pure (.int .i64 x38), .pure (.bool (x38 != (0 : Int))), .pure (.bool (x38 != (0 : Int))), .any 22, .any 23, .any 24, .any 25, .any 26, .any 27, .any 28, .any 29, .any 30, .any 31, .any 32, .any 33, .any 34, .any 35, .any 36, .any 37, .any 38, .any 39, .any 40, .any 41, .pure (.int .i64 (1 : Int)), .pure (.bool true), .pure (.int .i64 (0 : Int)), .pure (.int .i64 (1 : Int)), .pure (.int .i64 (1 : Int)), .ptr 10 1, .dsl 9, .pure (.int .i64 (x16 : Int)), .pure (.int .i64 (ka : Int)), .pure (.bool ((x16 : Int) != (ka : Int))), .pure (.bool ((x16 : Int) != (ka : Int))), .pure (.int .i64 (1 : Int)), .ptr 15 1, .dsl 14, .pure (.int .i64 (x25 : Int)), .pure (.int .i64 (ka : Int)), .pure (.int .i64 (IntKind.i64.wrap ((ka : Int) + (1 : Int)))), .pure (.bool ((x25 : Int) != IntKind.i64.wrap ((ka : Int) + (1 : Int)))), .pure (.bool ((x25 : Int) != IntKind.i64.wrap ((ka : Int) + (1 : Int)))), .pure (.bool ((x25 : Int) != IntKind.i64.wrap ((ka : Int) + (1 : Int)))), .pure (.int .i64 (1 : Int)), .ptr 20 1, .dsl 19, .pure (.int .i64 (x34 : Int)), .pure (.int .i64 (ka : Int)), .pure (.bool ((x34 : Int) != (ka : Int))), .pure (.bool ((x34 : Int) != (ka : Int))), .pure (.bool ((x34 : Int) != (ka : Int))), .pure (.int .i64 (1 : Int)), .ptr 15 1, .dsl 14, .dptr 14 0, .pure (.int .i64 x41), .pure (.bool (x41 != (0 : Int))), .pure (.bool (x41 != (0 : Int))), .any 45, .any 46, .any 47, .any 48, .any 49, .any 50, .any 51, .any 52, .any 53, .any 54, .any 55, .any 56, .any 57, .any 58, .any 59, .any 60, .any 61, .any 62, .any 63, .any 64, .any 65, .any 66, .any 67, .any 68, .any 69, .any 70, .any 71, .any 72, .any 73, .any 74, .any 75, .any 76, .any 77, .any 78, .any 79, .any 80, .any 81, .any 82, .any 83, .any 84, .any 85, .any 86, .any 87, .any 88, .any 89, .any 90, .pure (.tuple #[]), .pure (.tuple #[]), .pure (.tuple #[]), .pure (.tuple #[]), .pure (.tuple #[]), .pure (.tuple #[]), .pure (.tuple #[]), .pure (.tuple #[]), .pure (.tuple #[]), .pure (.tuple #[]), .pure (.tuple #[]), .pure (.tuple #[]), .pure (.tuple #[]), .pure (.tuple #[]), .pure (.tuple #[]), .pure (.tuple #[]), .pure (.tuple #[]), .pure (.tuple #[]), .pure (.tuple #[]), .pure (.tuple #[]), .pure (.tuple #[]), .pure (.tuple #[]), .pure (.tuple #[]), .pure (.tuple #[]), .pure (.tuple #[]), .pure (.tuple #[]), .pure (.tuple #[]), .pure (.tuple #[]), .pure (.tuple #[]), .pure (.tuple #[]), .pure (.tuple #[]), .pure (.tuple #[]), .pure (.tuple #[])], [(20, { cells := [.dsl 18, .dsl 19], opn := none, kind := .cells }), (19, { cells := [], opn := none, kind := .deep x34 x35 }), (18, { cells := [], opn := none, kind := .deep x32 x33 }), (17, { cells := [], opn := none, kind := .deep x30 x31 }), (16, { cells := [], opn := none, kind := .deep x28 x29 }), (15, { cells := [.dsl 13, .dsl 14], opn := none, kind := .cells }), (14, { cells := [], opn := none, kind := .deep x25 x26 }), (13, { cells := [], opn := none, kind := .deep x23 x24 }), (12, { cells := [], opn := none, kind := .deep x21 x22 }), (11, { cells := [], opn := none, kind := .deep x19 x20 }), (10, { cells := [.dsl 8, .dsl 9], opn := none, kind := .cells }), (9, { cells := [], opn := none, kind := .deep x16 x17 }), (8, { cells := [], opn := none, kind := .deep x14 x15 }), (7, { cells := [], opn := none, kind := .deep x12 x13 }), (6, { cells := [], opn := none, kind := .deep x10 x11 }), (5, { cells := [], opn := none, kind := .deep x7 x8 }), (4, { cells := [], opn := none, kind := .deep x5 x6 }), (3, { cells := [], opn := none, kind := .deep x3 x4 }), (2, { cells := [.dsl 0, .dsl 1], opn := none, kind := .cells }), (1, { cells := [], opn := none, kind := .deep kb cb }), (0, { cells := [], opn := none, kind := .deep ka ca })])
def law4_L24_2_A : LoopAt := ⟨4, loopAt Try.prog 4 2, 92, 141, 92, noFrame⟩
theorem law4_L24_2_ok : (law4_L24_2_A).OK := ⟨by show 92 ≤ 141; decide, by show 92 ≤ 92; decide, by kernel_rfl, rfl⟩
def law4_L24_2_gs (ka : Nat) (ca : List D) (kb : Nat) (cb : List D) (x0 : Bool) (x1 : Bool) (x2 : Int) (x3 : Nat) (x4 : List D) (x5 : Nat) (x6 : List D) (x7 : Nat) (x8 : List D) (x9 : Int) (x10 : Nat) (x11 : List D) (x12 : Nat) (x13 : List D) (x14 : Nat) (x15 : List D) (x16 : Nat) (x17 : List D) (x18 : Int) (x19 : Nat) (x20 : List D) (x21 : Nat) (x22 : List D) (x23 : Nat) (x24 : List D) (x25 : Nat) (x26 : List D) (x27 : Int) (x28 : Nat) (x29 : List D) (x30 : Nat) (x31 : List D) (x32 : Nat) (x33 : List D) (x34 : Nat) (x35 : List D) (x36 : Int) (x37 : Int) (x38 : Int) (x39 : Bool) (x40 : Int) (x41 : Int) : Go.Ev.Rd → Option GS
  | .next 0 ds => ghost [.val 14, .val 16] (2 :: (List.range' 145 46)) (law4_L24_2_E ka ca kb cb x0 x1 x2 x3 x4 x5 x6 x7 x8 x9 x10 x11 x12 x13 x14 x15 x16 x17 x18 x19 x20 x21 x22 x23 x24 x25 x26 x27 x28 x29 x30 x31 x32 x33 x34 x35 x36 x37 x38 x39 x40 x41).1 (law4_L24_2_E ka ca kb cb x0 x1 x2 x3 x4 x5 x6 x7 x8 x9 x10 x11 x12 x13 x14 x15 x16 x17 x18 x19 x20 x21 x22 x23 x24 x25 x26 x27 x28 x29 x30 x31 x32 x33 x34 x35 x36 x37 x38 x39 x40 x41).2 92 ds
  | .out 0 ds => ghost law4_x24_0.live law4_x24_0.junk (law4_L24_2_E ka ca kb cb x0 x1 x2 x3 x4 x5 x6 x7 x8 x9 x10 x11 x12 x13 x14 x15 x16 x17 x18 x19 x20 x21 x22 x23 x24 x25 x26 x27 x28 x29 x30 x31 x32 x33 x34 x35 x36 x37 x38 x39 x40 x41).1 (law4_L24_2_E ka ca kb cb x0 x1 x2 x3 x4 x5 x6 x7 x8 x9 x10 x11 x12 x13 x14 x15 x16 x17 x18 x19 x20 x21 x22 x23 x24 x25 x26 x27 x28 x29 x30 x31 x32 x33 x34 x35 x36 x37 x38 x39 x40 x41).2 92 ds
  | .out 1 ds => ghost law4_x24_1.live law4_x24_1.junk (law4_L24_2_E ka ca kb cb x0 x1 x2 x3 x4 x5 x6 x7 x8 x9 x10 x11 x12 x13 x14 x15 x16 x17 x18 x19 x20 x21 x22 x23 x24 x25 x26 x27 x28 x29 x30 x31 x32 x33 x34 x35 x36 x37 x38 x39 x40 x41).1 (law4_L24_2_E ka ca kb cb x0 x1 x2 x3 x4 x5 x6 x7 x8 x9 x10 x11 x12 x13 x14 x15 x16 x17 x18 x19 x20 x21 x22 x23 x24 x25 x26 x27 x28 x29 x30 x31 x32 x33 x34 x35 x36 x37 x38 x39 x40 x41).2 92 ds
  | _ => none
def law4_L24_2_ex : Nat → Option Nat
  | 0 => law4_x24_0.ex
  | 1 => law4_x24_1.ex
  | _ => none
def law4_L24_2_ax : Go.Ev.Rd → AX
  | .next _ _ => .normal
  | .out j _ => axOf (law4_L24_2_ex j)
def law4_L24_2_S0 (ka : Nat) (ca : List D) (kb : Nat) (cb : List D) (x0 : Bool) (x1 : Bool) (x2 : Int) (x3 : Nat) (x4 : List D) (x5 : Nat) (x6 : List D) (x7 : Nat) (x8 : List D) (x9 : Int) (x10 : Nat) (x11 : List D) (x12 : Nat) (x13 : List D) (x14 : Nat) (x15 : List D) (x16 : Nat) (x17 : List D) (x18 : Int) (x19 : Nat) (x20 : List D) (x21 : Nat) (x22 : List D) (x23 : Nat) (x24 : List D) (x25 : Nat) (x26 : List D) (x27 : Int) (x28 : Nat) (x29 : List D) (x30 : Nat) (x31 : List D) (x32 : Nat) (x33 : List D) (x34 : Nat) (x35 : List D) (x36 : Int) (x37 : Int) (x38 : Int) (x39 : Bool) (x40 : Int) (x41 : Int) (ds : List D) : Option Go.Ev.Rd := pullD (α := Int × Int) (some (.tup ds)) (fun d => ((D.vi (D.at d 0)), (D.vi (D.at d 1)))) (fun (s14, s16) => .tup [iD s14, iD s16]) fun (s14, s16) => ((if s16 < (ka : Int) then guardP ((0 : Int) ≤ s16 ∧ s16.toNat < x16) (pullD (α := Int) (readD x17 (s16.toNat * 1) 1 false) (fun d => ((D.vi d))) (fun v0 => iD v0) fun v0 => (guardP ((0 : Int) ≤ IntKind.i64.wrap (s16 + (1 : Int)) ∧ (IntKind.i64.wrap (s16 + (1 : Int))).toNat < x25) (pullD (α := Int) (readD x26 ((IntKind.i64.wrap (s16 + (1 : Int))).toNat * 1) 1 false) (fun d => ((D.vi d))) (fun v1 => iD v1) fun v1 => (guardP ((0 : Int) ≤ s16 ∧ s16.toNat < x25) (pullD (α := Int) (readD x26 (s16.toNat * 1) 1 false) (fun d => ((D.vi d))) (fun v2 => iD v2) fun v2 => (pullD (α := Int) (readD x17 (s16.toNat * 1) 1 false) (fun d => ((D.vi d))) (fun v3 => iD v3) fun v3 => ((if v1 ≠ IntKind.i64.wrap (v2 + v3) then some (.out 1 [.one (.bool false)]) else (if (x39) = true then pullD (α := Int) (readD x17 (s16.toNat * 1) 1 false) (fun d => ((D.vi d))) (fun v4 => iD v4) fun v4 => ((if v4 ≠ (0 : Int) then some (.out 1 [.one (.bool false)]) else some (.next 0 [iD (IntKind.i64.wrap (s14 + v0)), iD (IntKind.i64.wrap (s16 + (1 : Int)))]))) else some (.next 0 [iD (IntKind.i64.wrap (s14 + v0)), iD (IntKind.i64.wrap (s16 + (1 : Int)))])))))))))) else some (.out 0 [iD s14])))
def law4_L24_2_S (ka : Nat) (ca : List D) (kb : Nat) (cb : List D) (x0 : Bool) (x1 : Bool) (x2 : Int) (x3 : Nat) (x4 : List D) (x5 : Nat) (x6 : List D) (x7 : Nat) (x8 : List D) (x9 : Int) (x10 : Nat) (x11 : List D) (x12 : Nat) (x13 : List D) (x14 : Nat) (x15 : List D) (x16 : Nat) (x17 : List D) (x18 : Int) (x19 : Nat) (x20 : List D) (x21 : Nat) (x22 : List D) (x23 : Nat) (x24 : List D) (x25 : Nat) (x26 : List D) (x27 : Int) (x28 : Nat) (x29 : List D) (x30 : Nat) (x31 : List D) (x32 : Nat) (x33 : List D) (x34 : Nat) (x35 : List D) (x36 : Int) (x37 : Int) (x38 : Int) (x39 : Bool) (x40 : Int) (x41 : Int) : Go.Ev.Rd → Option Go.Ev.Rd
  | .next 0 ds => law4_L24_2_S0 ka ca kb cb x0 x1 x2 x3 x4 x5 x6 x7 x8 x9 x10 x11 x12 x13 x14 x15 x16 x17 x18 x19 x20 x21 x22 x23 x24 x25 x26 x27 x28 x29 x30 x31 x32 x33 x34 x35 x36 x37 x38 x39 x40 x41 ds
  | _ => none
theorem law4_L24_2_S_ok (ka : Nat) (ca : List D) (kb : Nat) (cb : List D) (x0 : Bool) (x1 : Bool) (x2 : Int) (x3 : Nat) (x4 : List D) (x5 : Nat) (x6 : List D) (x7 : Nat) (x8 : List D) (x9 : Int) (x10 : Nat) (x11 : List D) (x12 : Nat) (x13 : List D) (x14 : Nat) (x15 : List D) (x16 : Nat) (x17 : List D) (x18 : Int) (x19 : Nat) (x20 : List D) (x21 : Nat) (x22 : List D) (x23 : Nat) (x24 : List D) (x25 : Nat) (x26 : List D) (x27 : Int) (x28 : Nat) (x29 : List D) (x30 : Nat) (x31 : List D) (x32 : Nat) (x33 : List D) (x34 : Nat) (x35 : List D) (x36 : Int) (x37 : Int) (x38 : Int) (x39 : Bool) (x40 : Int) (x41 : Int) : ∀ s_ t_, law4_L24_2_S ka ca kb cb x0 x1 x2 x3 x4 x5 x6 x7 x8 x9 x10 x11 x12 x13 x14 x15 x16 x17 x18 x19 x20 x21 x22 x23 x24 x25 x26 x27 x28 x29 x30 x31 x32 x33 x34 x35 x36 x37 x38 x39 x40 x41 s_ = some t_ → Step (ctx [4] law4_sp) Tabs law4_L24_2_A (stateOf (law4_L24_2_gs ka ca kb cb x0 x1 x2 x3 x4 x5 x6 x7 x8 x9 x10 x11 x12 x13 x14 x15 x16 x17 x18 x19 x20 x21 x22 x23 x24 x25 x26 x27 x28 x29 x30 x31 x32 x33 x34 x35 x36 x37 x38 x39 x40 x41 s_)) (stateOf (law4_L24_2_gs ka ca kb cb x0 x1 x2 x3 x4 x5 x6 x7 x8 x9 x10 x11 x12 x13 x14 x15 x16 x17 x18 x19 x20 x21 x22 x23 x24 x25 x26 x27 x28 x29 x30 x31 x32 x33 x34 x35 x36 x37 x38 x39 x40 x41 t_)) (law4_L24_2_ax t_) ∧ EndOK law4_L24_2_A.nx law4_L24_2_A.low (law4_L24_2_gs ka ca kb cb x0 x1 x2 x3 x4 x5 x6 x7 x8 x9 x10 x11 x12 x13 x14 x15 x16 x17 x18 x19 x20 x21 x22 x23 x24 x25 x26 x27 x28 x29 x30 x31 x32 x33 x34 x35 x36 x37 x38 x39 x40 x41) t_
  | .next 0 ds, t_, h => by
    have h_ : law4_L24_2_S0 ka ca kb cb x0 x1 x2 x3 x4 x5 x6 x7 x8 x9 x10 x11 x12 x13 x14 x15 x16 x17 x18 x19 x20 x21 x22 x23 x24 x25 x26 x27 x28 x29 x30 x31 x32 x33 x34 x35 x36 x37 x38 x39 x40 x41 ds = some t_ := h
    clear h
    unfold law4_L24_2_S0 at h_
    obtain ⟨⟨s14, s16⟩, e0, h0⟩ := pullD_elim h_
    clear h_
    obtain rfl := tup_inj e0
    by_cases b1_ : s16 < (ka : Int)
    · have h2_ := (if_pos b1_).symm.trans h0
      obtain ⟨f3_, h4_⟩ := guardP_elim h2_
      obtain ⟨v0, f5_, h6_⟩ := pullD_elim h4_
      replace f5_ := readD_elim f5_
      obtain ⟨f7_, h8_⟩ := guardP_elim h6_
      obtain ⟨v1, f9_, h10_⟩ := pullD_elim h8_
      replace f9_ := readD_elim f9_
      obtain ⟨f11_, h12_⟩ := guardP_elim h10_
      obtain ⟨v2, f13_, h14_⟩ := pullD_elim h12_
      replace f13_ := readD_elim f13_
      obtain ⟨v3, f15_, h16_⟩ := pullD_elim h14_
      replace f15_ := readD_elim f15_
      by_cases b17_ : v1 ≠ IntKind.i64.wrap (v2 + v3)
      · have h18_ := (if_pos b17_).symm.trans h16_
        obtain rfl := Option.some.inj h18_
        exact ⟨step_pc 3000 (bT 6 []) [iD v0, iD v1, iD v2, iD v3] [c_d b1_, c_f f3_, c_f f5_, c_f f7_, c_f f9_, c_f f11_, c_f f13_, c_f f3_, c_f f15_, c_b b17_, c_b b17_, c_b b17_, c_b b17_, c_T] [] _ rfl (by kernel_rfl) (by kernel_rfl) (by kernel_rfl) (by kernel_rfl) (by kernel_rfl) (by kernel_rfl), by kernel_rfl, by kernel_rfl⟩
      have h18_ := (if_neg b17_).symm.trans h16_
      have b19_ : v1 = IntKind.i64.wrap (v2 + v3) := by first | exact b17_ | simpa using b17_
      by_cases b20_ : (x39) = true
      · have h21_ := (if_pos b20_).symm.trans h18_
        obtain ⟨v4, f22_, h23_⟩ := pullD_elim h21_
        replace f22_ := readD_elim f22_
        by_cases b24_ : v4 ≠ (0 : Int)
        · have h25_ := (if_pos b24_).symm.trans h23_
          obtain rfl := Option.some.inj h25_
          exact ⟨step_pc 3000 (bT 1 (bF 2 (bT 7 (bF 1 (bT 1 (bF 1 (bT 1 []))))))) [iD v0, iD v1, iD v2, iD v3, iD v4] [c_d b1_, c_f f3_, c_f f5_, c_f f7_, c_f f9_, c_f f11_, c_f f13_, c_f f3_, c_f f15_, c_bn b19_, c_bn b19_, c_q b20_, c_q b20_, c_q b20_, c_q b20_, c_q b20_, c_f f3_, c_q b20_, c_f f22_, c_q b20_, c_bn b19_, c_q b20_, c_bn b19_, c_b b24_] [] _ rfl (by kernel_rfl) (by kernel_rfl) (by kernel_rfl) (by kernel_rfl) (by kernel_rfl) (by kernel_rfl), by kernel_rfl, by kernel_rfl⟩
        have h25_ := (if_neg b24_).symm.trans h23_
        have b26_ : v4 = (0 : Int) := by first | exact b24_ | simpa using b24_
        obtain rfl := Option.some.inj h25_
        exact ⟨step_pc 3000 (bT 1 (bF 2 (bT 7 (bF 1 (bT 1 (bF 2 [])))))) [iD v0, iD v1, iD v2, iD v3, iD v4] [c_d b1_, c_f f3_, c_f f5_, c_f f7_, c_f f9_, c_f f11_, c_f f13_, c_f f3_, c_f f15_, c_bn b19_, c_bn b19_, c_q b20_, c_q b20_, c_q b20_, c_q b20_, c_q b20_, c_f f3_, c_q b20_, c_f f22_, c_q b20_, c_bn b19_, c_q b20_, c_bn b19_, c_bn b26_] [] _ rfl (by kernel_rfl) (by kernel_rfl) (by kernel_rfl) (by kernel_rfl) (by kernel_rfl) (by kernel_rfl), trivial⟩
      have h21_ := (if_neg b20_).symm.trans h18_
      have b27_ : (x39) = false := by first | exact b20_ | simpa using b20_
      obtain rfl := Option.some.inj h21_
      exact ⟨step_pc 3000 (bT 1 (bF 13 [])) [iD v0, iD v1, iD v2, iD v3] [c_d b1_, c_f f3_, c_f f5_, c_f f7_, c_f f9_, c_f f11_, c_f f13_, c_f f3_, c_f f15_, c_bn b19_, c_bn b19_, c_q b27_, c_q b27_, c_q b27_, c_q b27_, c_q b27_, c_q b27_, c_q b27_, c_bn b19_, c_q b27_, c_bn b19_, c_F] [] _ rfl (by kernel_rfl) (by kernel_rfl) (by kernel_rfl) (by kernel_rfl) (by kernel_rfl) (by kernel_rfl), trivial⟩
    have h2_ := (if_neg b1_).symm.trans h0
    obtain rfl := Option.some.inj h2_
    exact ⟨step_pc 3000 (bF 1 []) [] [c_n b1_] [] _ rfl (by kernel_rfl) (by kernel_rfl) (by kernel_rfl) (by kernel_rfl) (by kernel_rfl) (by kernel_rfl), by kernel_rfl, by kernel_rfl⟩
  | .next (_ + 1) _, _, h => by cases h
  | .out _ _, _, h => by cases h
theorem law4_L24_2_go (ka : Nat) (ca : List D) (kb : Nat) (cb : List D) (x0 : Bool) (x1 : Bool) (x2 : Int) (x3 : Nat) (x4 : List D) (x5 : Nat) (x6 : List D) (x7 : Nat) (x8 : List D) (x9 : Int) (x10 : Nat) (x11 : List D) (x12 : Nat) (x13 : List D) (x14 : Nat) (x15 : List D) (x16 : Nat) (x17 : List D) (x18 : Int) (x19 : Nat) (x20 : List D) (x21 : Nat) (x22 : List D) (x23 : Nat) (x24 : List D) (x25 : Nat) (x26 : List D) (x27 : Int) (x28 : Nat) (x29 : List D) (x30 : Nat) (x31 : List D) (x32 : Nat) (x33 : List D) (x34 : Nat) (x35 : List D) (x36 : Int) (x37 : Int) (x38 : Int) (x39 : Bool) (x40 : Int) (x41 : Int) {q : Nat} {ds : List D} {j : Nat} {es : List D} (h : runR (law4_L24_2_S ka ca kb cb x0 x1 x2 x3 x4 x5 x6 x7 x8 x9 x10 x11 x12 x13 x14 x15 x16 x17 x18 x19 x20 x21 x22 x23 x24 x25 x26 x27 x28 x29 x30 x31 x32 x33 x34 x35 x36 x37 x38 x39 x40 x41) (.next q ds) = some (.out j es)) : Runs (ctx [4] law4_sp) Tabs law4_L24_2_A (stateOf (law4_L24_2_gs ka ca kb cb x0 x1 x2 x3 x4 x5 x6 x7 x8 x9 x10 x11 x12 x13 x14 x15 x16 x17 x18 x19 x20 x21 x22 x23 x24 x25 x26 x27 x28 x29 x30 x31 x32 x33 x34 x35 x36 x37 x38 x39 x40 x41 (.next q ds))) (stateOf (law4_L24_2_gs ka ca kb cb x0 x1 x2 x3 x4 x5 x6 x7 x8 x9 x10 x11 x12 x13 x14 x15 x16 x17 x18 x19 x20 x21 x22 x23 x24 x25 x26 x27 x28 x29 x30 x31 x32 x33 x34 x35 x36 x37 x38 x39 x40 x41 (.out j es))) (law4_L24_2_ax (.out j es)) ∧ (nxtOf (law4_L24_2_gs ka ca kb cb x0 x1 x2 x3 x4 x5 x6 x7 x8 x9 x10 x11 x12 x13 x14 x15 x16 x17 x18 x19 x20 x21 x22 x23 x24 x25 x26 x27 x28 x29 x30 x31 x32 x33 x34 x35 x36 x37 x38 x39 x40 x41 (.out j es)), lowGS (law4_L24_2_gs ka ca kb cb x0 x1 x2 x3 x4 x5 x6 x7 x8 x9 x10 x11 x12 x13 x14 x15 x16 x17 x18 x19 x20 x21 x22 x23 x24 x25 x26 x27 x28 x29 x30 x31 x32 x33 x34 x35 x36 x37 x38 x39 x40 x41 (.out j es))) = (law4_L24_2_A.nx, law4_L24_2_A.low) :=
  runs_of' (good true _ _) law4_L24_2_ok (ax := law4_L24_2_ax) (fun _ _ => rfl) (fun _ _ => axOf_end _) (law4_L24_2_S_ok ka ca kb cb x0 x1 x2 x3 x4 x5 x6 x7 x8 x9 x10 x11 x12 x13 x14 x15 x16 x17 x18 x19 x20 x21 x22 x23 x24 x25 x26 x27 x28 x29 x30 x31 x32 x33 x34 x35 x36 x37 x38 x39 x40 x41) h
theorem law4_L24_2_in0 (ka : Nat) (ca : List D) (kb : Nat) (cb : List D) (x0 : Bool) (x1 : Bool) (x2 : Int) (x3 : Nat) (x4 : List D) (x5 : Nat) (x6 : List D) (x7 : Nat) (x8 : List D) (x9 : Int) (x10 : Nat) (x11 : List D) (x12 : Nat) (x13 : List D) (x14 : Nat) (x15 : List D) (x16 : Nat) (x17 : List D) (x18 : Int) (x19 : Nat) (x20 : List D) (x21 : Nat) (x22 : List D) (x23 : Nat) (x24 : List D) (x25 : Nat) (x26 : List D) (x27 : Int) (x28 : Nat) (x29 : List D) (x30 : Nat) (x31 : List D) (x32 : Nat) (x33 : List D) (x34 : Nat) (x35 : List D) (x36 : Int) (x37 : Int) (x38 : Int) (x39 : Bool) (x40 : Int) (x41 : Int) {es : List D} (h : runR (law4_L24_2_S ka ca kb cb x0 x1 x2 x3 x4 x5 x6 x7 x8 x9 x10 x11 x12 x13 x14 x15 x16 x17 x18 x19 x20 x21 x22 x23 x24 x25 x26 x27 x28 x29 x30 x31 x32 x33 x34 x35 x36 x37 x38 x39 x40 x41) (.next 0 [iD x40, iD ((0 : Int))]) = some (.out 0 es)) : LoopC (loopAt Try.prog 4 2) (law4_L24_2_E ka ca kb cb x0 x1 x2 x3 x4 x5 x6 x7 x8 x9 x10 x11 x12 x13 x14 x15 x16 x17 x18 x19 x20 x21 x22 x23 x24 x25 x26 x27 x28 x29 x30 x31 x32 x33 x34 x35 x36 x37 x38 x39 x40 x41) 92 noFrame law4_x24_0 es :=
  have r := law4_L24_2_go ka ca kb cb x0 x1 x2 x3 x4 x5 x6 x7 x8 x9 x10 x11 x12 x13 x14 x15 x16 x17 x18 x19 x20 x21 x22 x23 x24 x25 x26 x27 x28 x29 x30 x31 x32 x33 x34 x35 x36 x37 x38 x39 x40 x41 h
  loopin_as rfl (loop_in (l := law4_L24_2_A) (E := (law4_L24_2_E ka ca kb cb x0 x1 x2 x3 x4 x5 x6 x7 x8 x9 x10 x11 x12 x13 x14 x15 x16 x17 x18 x19 x20 x21 x22 x23 x24 x25 x26 x27 x28 x29 x30 x31 x32 x33 x34 x35 x36 x37 x38 x39 x40 x41)) (S := stateOf (law4_L24_2_gs ka ca kb cb x0 x1 x2 x3 x4 x5 x6 x7 x8 x9 x10 x11 x12 x13 x14 x15 x16 x17 x18 x19 x20 x21 x22 x23 x24 x25 x26 x27 x28 x29 x30 x31 x32 x33 x34 x35 x36 x37 x38 x39 x40 x41 (.next 0 [iD x40, iD ((0 : Int))]))) (ns := nsOf (law4_L24_2_gs ka ca kb cb x0 x1 x2 x3 x4 x5 x6 x7 x8 x9 x10 x11 x12 x13 x14 x15 x16 x17 x18 x19 x20 x21 x22 x23 x24 x25 x26 x27 x28 x29 x30 x31 x32 x33 x34 x35 x36 x37 x38 x39 x40 x41 (.next 0 [iD x40, iD ((0 : Int))]))) law4_L24_2_ok r.1 r.2 (by kernel_rfl) (by kernel_rfl) (by kernel_rfl) (by kernel_rfl))
theorem law4_L24_2_in1 (ka : Nat) (ca : List D) (kb : Nat) (cb : List D) (x0 : Bool) (x1 : Bool) (x2 : Int) (x3 : Nat) (x4 : List D) (x5 : Nat) (x6 : List D) (x7 : Nat) (x8 : List D) (x9 : Int) (x10 : Nat) (x11 : List D) (x12 : Nat) (x13 : List D) (x14 : Nat) (x15 : List D) (x16 : Nat) (x17 : List D) (x18 : Int) (x19 : Nat) (x20 : List D) (x21 : Nat) (x22 : List D) (x23 : Nat) (x24 : List D) (x25 : Nat) (x26 : List D) (x27 : Int) (x28 : Nat) (x29 : List D) (x30 : Nat) (x31 : List D) (x32 : Nat) (x33 : List D) (x34 : Nat) (x35 : List D) (x36 : Int) (x37 : Int) (x38 : Int) (x39 : Bool) (x40 : Int) (x41 : Int) {es : List D} (h : runR (law4_L24_2_S ka ca kb cb x0 x1 x2 x3 x4 x5 x6 x7 x8 x9 x10 x11 x12 x13 x14 x15 x16 x17 x18 x19 x20 x21 x22 x23 x24 x25 x26 x27 x28 x29 x30 x31 x32 x33 x34 x35 x36 x37 x38 x39 x40 x41) (.next 0 [iD x40, iD ((0 : Int))]) = some (.out 1 es)) : LoopC (loopAt Try.prog 4 2) (law4_L24_2_E ka ca kb cb x0 x1 x2 x3 x4 x5 x6 x7 x8 x9 x10 x11 x12 x13 x14 x15 x16 x17 x18 x19 x20 x21 x22 x23 x24 x25 x26 x27 x28 x29 x30 x31 x32 x33 x34 x35 x36 x37 x38 x39 x40 x41) 92 noFrame law4_x24_1 es :=
  have r := law4_L24_2_go ka ca kb cb x0 x1 x2 x3 x4 x5 x6 x7 x8 x9 x10 x11 x12 x13 x14 x15 x16 x17 x18 x19 x20 x21 x22 x23 x24 x25 x26 x27 x28 x29 x30 x31 x32 x33 x34 x35 x36 x37 x38 x39 x40 x41 h
  loopin_as rfl (loop_in (l := law4_L24_2_A) (E := (law4_L24_2_E ka ca kb cb x0 x1 x2 x3 x4 x5 x6 x7 x8 x9 x10 x11 x12 x13 x14 x15 x16 x17 x18 x19 x20 x21 x22 x23 x24 x25 x26 x27 x28 x29 x30 x31 x32 x33 x34 x35 x36 x37 x38 x39 x40 x41)) (S := stateOf (law4_L24_2_gs ka ca kb cb x0 x1 x2 x3 x4 x5 x6 x7 x8 x9 x10 x11 x12 x13 x14 x15 x16 x17 x18 x19 x20 x21 x22 x23 x24 x25 x26 x27 x28 x29 x30 x31 x32 x33 x34 x35 x36 x37 x38 x39 x40 x41 (.next 0 [iD x40, iD ((0 : Int))]))) (ns := nsOf (law4_L24_2_gs ka ca kb cb x0 x1 x2 x3 x4 x5 x6 x7 x8 x9 x10 x11 x12 x13 x14 x15 x16 x17 x18 x19 x20 x21 x22 x23 x24 x25 x26 x27 x28 x29 x30 x31 x32 x33 x34 x35 x36 x37 x38 x39 x40 x41 (.next 0 [iD x40, iD ((0 : Int))]))) law4_L24_2_ok r.1 r.2 (by kernel_rfl) (by kernel_rfl) (by kernel_rfl) (by kernel_rfl))
def law4_L24_E (ka : Nat) (ca : List D) (kb : Nat) (cb : List D) (x0 : Bool) (x1 : Bool) (x2 : Int) (x3 : Nat) (x4 : List D) (x5 : Nat) (x6 : List D) (x7 : Nat) (x8 : List D) (x9 : Int) (x10 : Nat) (x11 : List D) (x12 : Nat) (x13 : List D) (x14 : Nat) (x15 : List D) (x16 : Nat) (x17 : List D) (x18 : Int) (x19 : Nat) (x20 : List D) (x21 : Nat) (x22 : List D) (x23 : Nat) (x24 : List D) (x25 : Nat) (x26 : List D) (x27 : Int) (x28 : Nat) (x29 : List D) (x30 : Nat) (x31 : List D) (x32 : Nat) (x33 : List D) (x34 : Nat) (x35 : List D) (x36 : Int) (x37 : Int) (x38 : Int) (x39 : Bool) (x40 : Int) : List AV × AHeap := ([.agg [.dsl 0, .dsl 1], .ptr 2 0, .pure (.bool false), .pure (.int .i64 (ka : Int)), .dsl 5, .pure (.int .i64 x9), .ptr 10 0, .pure (.int .i64 x18), .ptr 15 0, .pure (.int .i64 x27), .ptr 20 0, .pure (.int .i64 x36), .pure (.bool x39), .any 21, .pure (.int .i64 (0 : Int)), .pure (.int .i64 (0 : Int)), .pure (.int .i64 (0 : Int)), .pure (.tuple #[]), .pure (.tuple #[]), .pure (.bool x0), .pure (.bool !x0), .agg [.dsl 0, .dsl 1], .pure (.bool x1), .pure (.bool !x1), .pure (.bool !x1), .agg [.dsl 0, .dsl 1], .pure (.int .i64 x2), .pure (.bool (x2 != (0 : Int))), .pure (.bool (x2 != (0 : Int))), .ptr 2 0, .dsl 0, .pure (.int .i64 (ka : Int)), .tuple [.dsl 5, .pure (.int .i64 x9)], .agg [.dsl 0, .dsl 1], .agg [.dsl 3, .dsl 4], .tuple [.dsl 5, .pure (.int .i64 x9)], .dsl 5, .pure (.int .i64 x9), .tuple [.agg [.dsl 8, .dsl 9], .pure (.int .i64 x18)], .agg [.dsl 0, .dsl 1], .agg [.dsl 6, .dsl 7], .tuple [.agg [.dsl 8, .dsl 9], .pure (.int .i64 x18)], .agg [.dsl 8, .dsl 9], .pure (.int .i64 x18), .tuple [.agg [.dsl 13, .dsl 14], .pure (.int .i64 x27)], .agg [.dsl 0, .dsl 1], .agg [.dsl 11, .dsl 12], .tuple [.agg [.dsl 13, .dsl 14], .pure (.int .i64 x27)], .agg [.dsl 13, .dsl 14], .pure (.int .i64 x27), .tuple [.agg [.dsl 18, .dsl 19], .pure (.int .i64 x36)], .agg [.dsl 0, .dsl 1], .agg [.dsl 16, .dsl 17], .tuple [.agg [.dsl 18, .dsl 19], .pure (.int .i64 x36)], .agg [.dsl 18, .dsl 19], .pure (.int .i64 x36), .pure (.int .i64 x9), .pure (.bool (x9 != (0 : Int))), .pure (.bool (x9 != (0 : Int))), .pure (.int .i64 x18), .pure (.bool (x18 != (0 : Int))), .pure (.bool (x18 != (0 : Int))), .pure (.bool (x18 != (0 : Int))), .pure (.int .i64 x27), .pure (.bool (x27 != (0 : Int))), .pure (.bool (x27 != (0 : Int))), .pure (.bool (x27 != (0 : Int))), .pure (.int .i64 x36), .pure (.bool (x36 != (0 : Int))), .pure (.bool (x36 != (0 : Int))), .pure (.bool (x36 != (0 : Int))), .dsl 5, .pure (.int .i64 (x7 : Int)), .pure (.int .i64 (ka : Int)), .pure (.int .i64 (IntKind.i64.wrap ((ka : Int) + (1 : Int)))), .pure (.bool ((x7 : Int) != IntKind.i64.wrap ((ka : Int) + (1 : Int)))), .pure (.bool ((x7 : Int) != IntKind.i64.wrap ((ka : Int) + (1 : Int)))), .pure (.bool ((x7 : Int) != IntKind.i64.wrap ((ka : Int) + (1 : Int)))), .dsl 5, .dptr 5 0, .pure (.int .i64 x37), .pure (.bool (x37 != (0 : Int))), .pure (.bool (x37 != (0 : Int))), .pure (.bool (x37 != (0 : Int))), .dsl 5, .pure (.int .i64 (ka : Int)), .dptr 5 (((ka : Int)).toNat * 1), .pure (.int .i64 x38), .pure (.bool (x38 != (0 : Int))), .pure (.bool (x38 != (0 : Int))), .any 22, .any 23, .any 24, .any 25, .any 26, .any 27, .any 28, .any 29, .any 30, .any 31, .any 32, .any 33, .any 34, .any 35, .any 36, .any 37, .any 38, .any 39, .any 40, .any 41, .pure (.int .i64 (0 : Int)), .pure (.bool true), .pure (.tuple #[]), .pure (.tuple #[]), .pure (.int .i64 (0 : Int)), .ptr 10 0, .dsl 8, .pure (.int .i64 (x14 : Int)), .pure (.int .i64 (ka : Int)), .pure (.bool ((x14 : Int) != (ka : Int))), .pure (.bool ((x14 : Int) != (ka : Int))), .pure (.int .i64 (0 : Int)), .ptr 15 0, .dsl 13, .pure (.int .i64 (x23 : Int)), .pure (.int .i64 (ka : Int)), .pure (.int .i64 (IntKind.i64.wrap ((ka : Int) + (1 : Int)))), .pure (.bool ((x23 : Int) != IntKind.i64.wrap ((ka : Int) + (1 : Int)))), .pure (.bool ((x23 : Int) != IntKind.i64.wrap ((ka : Int) + (1 : Int)))), .pure (.bool ((x23 : Int) != IntKind.i64.wrap ((ka : Int) + (1 : Int)))), .pure (.int .i64 (0 : Int)), .ptr 20 0, .dsl 18, .pure (.int .i64 (x32 : Int)), .pure (.int .i64 (ka : Int)), .pure (.bool ((x32 : Int) != (ka : Int))), .pure (.bool ((x32 : Int) != (ka : Int))), .pure (.bool ((x32 : Int) != (ka : Int))), .pure (.int .i64 (0 : Int)), .ptr 15 0, .dsl 13, .dptr 13 0, .pure (.int .i64 x40), .pure (.bool (x40 != (0 : Int))), .pure (.bool (x40 != (0 : Int))), .pure (.tuple #[]), .pure (.tuple #[]), .pure (.tuple #[]), .pure (.tuple #[]), .pure (.tuple #[]), .pure (.tuple #[]), .pure (.tuple #[]), .pure (.tuple #[]), .pure (.tuple #[]), .pure (.tuple #[]), .pure (.tuple #[]), .pure (.tuple #[]), .pure (.tuple #[]), .pure (.tuple #[]), .pure (.tuple #[]), .pure (.tuple #[]), .pure (.tuple #[]), .pure (.tuple #[]), .pure (.tuple #[]), .pure (.tuple #[]), .pure (.tuple #[]), .pure (.tuple #[]), .pure (.tuple #[]), .pure (.tuple #[]), .pure (.tuple #[]), .pure (.tuple #[]), .pure (.tuple #[]), .pure (.tuple #[]), .pure (.tuple #[]), .pure (.tuple #[]), .pure (.tuple #[]), .pure (.tuple #[]), .pure (.tuple #[]), .pure (.tuple #[]), .pure (.tuple #[]), .pure (.tuple #[]), .pure (.tuple #[]), .pure (.tuple #[]), .pure (.tuple #[]), .pure (.tuple #[]), .pure (.tuple #[]), .pure (.tuple #[]), .pure (.tuple #[]), .pure (.tuple #[]), .pure (.tuple #[]), .pure (.tuple #[]), .pure (.tuple #[]), .pure (.tuple #[]), .pure (.tuple #[]), .pure (.tuple #[]), .pure (.tuple #[]), .pure (.tuple #[]), .pure (.tuple #[]), .pure (.tuple #[]), .pure (.tuple #[]), .pure (.tuple #[]), .pure (.tuple #[]), .pure (.tuple #[]), .pure (.tuple #[]), .pure (.tuple #[]), .pure (.tuple #[]), .pure (.tuple #[]), .pure (.tuple #[]), .pure (.tuple #[]), .pure (.tuple #[]), .pure (.tuple #[]), .pure (.tuple #[]), .pure (.tuple #[]), .pure (.tuple #[]), .pure (.tuple #[]), .pure (.tuple #[]), .pure (.tuple #[]), .pure (.tuple #[]), .pure (.tuple #[]), .pure (.tuple #[]), .pure (.tuple #[]), .pure (.tuple #[]), .pure (.tuple #[]), .pure (.tuple #[])], [(20, { cells := [.dsl 18, .dsl 19], opn := none, kind := .cells }), (19, { cells := [], opn := none, kind := .deep x34 x35 }), (18, { cells := [], opn := none, kind := .deep x32 x33 }), (17, { cells := [], opn := none, kind := .deep x30 x31 }), (16, { cells := [], opn := none, kind := .deep x28 x29 }), (15, { cells := [.dsl 13, .dsl 14], opn := none, kind := .cells }), (14, { cells := [], opn := none, kind := .deep x25 x26 }), (13, { cells := [], opn := none, kind := .deep x23 x24 }), (12, { cells := [], opn := none, kind := .deep x21 x22 }), (11, { cells := [], opn := none, kind := .deep x19 x20 }), (10, { cells := [.dsl 8, .dsl 9], opn := none, kind := .cells }), (9, { cells := [], opn := none, kind := .deep x16 x17 }), (8, { cells := [], opn := none, kind := .deep x14 x15 }), (7, { cells := [], opn := none, kind := .deep x12 x13 }), (6, { cells := [], opn := none, kind := .deep x10 x11 }), (5, { cells := [], opn := none, kind := .deep x7 x8 }), (4, { cells := [], opn := none, kind := .deep x5 x6 }), (3, { cells := [], opn := none, kind := .deep x3 x4 }), (2, { cells := [.dsl 0, .dsl 1], opn := none, kind := .cells }), (1, { cells := [], opn := none, kind := .deep kb cb }), (0, { cells := [], opn := none, kind := .deep ka ca })])
def law4_L24_A : LoopAt := ⟨4, loopAt Try.prog 4 2, 43, 92, 43, noFrame⟩
theorem law4_L24_ok : (law4_L24_A).OK := ⟨by show 43 ≤ 92; decide, by show 43 ≤ 43; decide, by kernel_rfl, rfl⟩
def law4_L24_gs (ka : Nat) (ca : List D) (kb : Nat) (cb : List D) (x0 : Bool) (x1 : Bool) (x2 : Int) (x3 : Nat) (x4 : List D) (x5 : Nat) (x6 : List D) (x7 : Nat) (x8 : List D) (x9 : Int) (x10 : Nat) (x11 : List D) (x12 : Nat) (x13 : List D) (x14 : Nat) (x15 : List D) (x16 : Nat) (x17 : List D) (x18 : Int) (x19 : Nat) (x20 : List D) (x21 : Nat) (x22 : List D) (x23 : Nat) (x24 : List D) (x25 : Nat) (x26 : List D) (x27 : Int) (x28 : Nat) (x29 : List D) (x30 : Nat) (x31 : List D) (x32 : Nat) (x33 : List D) (x34 : Nat) (x35 : List D) (x36 : Int) (x37 : Int) (x38 : Int) (x39 : Bool) (x40 : Int) : Go.Ev.Rd → Option GS
  | .next 0 ds => ghost [.val 14, .val 16] (2 :: (List.range' 145 46)) (law4_L24_E ka ca kb cb x0 x1 x2 x3 x4 x5 x6 x7 x8 x9 x10 x11 x12 x13 x14 x15 x16 x17 x18 x19 x20 x21 x22 x23 x24 x25 x26 x27 x28 x29 x30 x31 x32 x33 x34 x35 x36 x37 x38 x39 x40).1 (law4_L24_E ka ca kb cb x0 x1 x2 x3 x4 x5 x6 x7 x8 x9 x10 x11 x12 x13 x14 x15 x16 x17 x18 x19 x20 x21 x22 x23 x24 x25 x26 x27 x28 x29 x30 x31 x32 x33 x34 x35 x36 x37 x38 x39 x40).2 43 ds
  | .out 0 ds => ghost law4_x24_0.live law4_x24_0.junk (law4_L24_E ka ca kb cb x0 x1 x2 x3 x4 x5 x6 x7 x8 x9 x10 x11 x12 x13 x14 x15 x16 x17 x18 x19 x20 x21 x22 x23 x24 x25 x26 x27 x28 x29 x30 x31 x32 x33 x34 x35 x36 x37 x38 x39 x40).1 (law4_L24_E ka ca kb cb x0 x1 x2 x3 x4 x5 x6 x7 x8 x9 x10 x11 x12 x13 x14 x15 x16 x17 x18 x19 x20 x21 x22 x23 x24 x25 x26 x27 x28 x29 x30 x31 x32 x33 x34 x35 x36 x37 x38 x39 x40).2 43 ds
  | .out 1 ds => ghost law4_x24_1.live law4_x24_1.junk (law4_L24_E ka ca kb cb x0 x1 x2 x3 x4 x5 x6 x7 x8 x9 x10 x11 x12 x13 x14 x15 x16 x17 x18 x19 x20 x21 x22 x23 x24 x25 x26 x27 x28 x29 x30 x31 x32 x33 x34 x35 x36 x37 x38 x39 x40).1 (law4_L24_E ka ca kb cb x0 x1 x2 x3 x4 x5 x6 x7 x8 x9 x10 x11 x12 x13 x14 x15 x16 x17 x18 x19 x20 x21 x22 x23 x24 x25 x26 x27 x28 x29 x30 x31 x32 x33 x34 x35 x36 x37 x38 x39 x40).2 43 ds
  | _ => none
def law4_L24_ex : Nat → Option Nat
  | 0 => law4_x24_0.ex
  | 1 => law4_x24_1.ex
  | _ => none
def law4_L24_ax : Go.Ev.Rd → AX
  | .next _ _ => .normal
  | .out j _ => axOf (law4_L24_ex j)
def law4_L24_S0 (ka : Nat) (ca : List D) (kb : Nat) (cb : List D) (x0 : Bool) (x1 : Bool) (x2 : Int) (x3 : Nat) (x4 : List D) (x5 : Nat) (x6 : List D) (x7 : Nat) (x8 : List D) (x9 : Int) (x10 : Nat) (x11 : List D) (x12 : Nat) (x13 : List D) (x14 : Nat) (x15 : List D) (x16 : Nat) (x17 : List D) (x18 : Int) (x19 : Nat) (x20 : List D) (x21 : Nat) (x22 : List D) (x23 : Nat) (x24 : List D) (x25 : Nat) (x26 : List D) (x27 : Int) (x28 : Nat) (x29 : List D) (x30 : Nat) (x31 : List D) (x32 : Nat) (x33 : List D) (x34 : Nat) (x35 : List D) (x36 : Int) (x37 : Int) (x38 : Int) (x39 : Bool) (x40 : Int) (ds : List D) : Option Go.Ev.Rd := pullD (α := Int × Int) (some (.tup ds)) (fun d => ((D.vi (D.at d 0)), (D.vi (D.at d 1)))) (fun (s14, s16) => .tup [iD s14, iD s16]) fun (s14, s16) => ((if s16 < (ka : Int) then guardP ((0 : Int) ≤ s16 ∧ s16.toNat < x14) (pullD (α := Int) (readD x15 (s16.toNat * 1) 1 false) (fun d => ((D.vi d))) (fun v0 => iD v0) fun v0 => (guardP ((0 : Int) ≤ IntKind.i64.wrap (s16 + (1 : Int)) ∧ (IntKind.i64.wrap (s16 + (1 : Int))).toNat < x23) (pullD (α := Int) (readD x24 ((IntKind.i64.wrap (s16 + (1 : Int))).toNat * 1) 1 false) (fun d => ((D.vi d))) (fun v1 => iD v1) fun v1 => (guardP ((0 : Int) ≤ s16 ∧ s16.toNat < x23) (pullD (α := Int) (readD x24 (s16.toNat * 1) 1 false) (fun d => ((D.vi d))) (fun v2 => iD v2) fun v2 => (pullD (α := Int) (readD x15 (s16.toNat * 1) 1 false) (fun d => ((D.vi d))) (fun v3 => iD v3) fun v3 => ((if v1 ≠ IntKind.i64.wrap (v2 + v3) then some (.out 1 [.one (.bool false)]) else (if (x39) = true then pullD (α := Int) (readD x15 (s16.toNat * 1) 1 false) (fun d => ((D.vi d))) (fun v4 => iD v4) fun v4 => ((if v4 ≠ (0 : Int) then some (.out 1 [.one (.bool false)]) else some (.next 0 [iD (IntKind.i64.wrap (s14 + v0)), iD (IntKind.i64.wrap (s16 + (1 : Int)))]))) else some (.next 0 [iD (IntKind.i64.wrap (s14 + v0)), iD (IntKind.i64.wrap (s16 + (1 : Int)))])))))))))) else some (.out 0 [iD s14])))
def law4_L24_S (ka : Nat) (ca : List D) (kb : Nat) (cb : List D) (x0 : Bool) (x1 : Bool) (x2 : Int) (x3 : Nat) (x4 : List D) (x5 : Nat) (x6 : List D) (x7 : Nat) (x8 : List D) (x9 : Int) (x10 : Nat) (x11 : List D) (x12 : Nat) (x13 : List D) (x14 : Nat) (x15 : List D) (x16 : Nat) (x17 : List D) (x18 : Int) (x19 : Nat) (x20 : List D) (x21 : Nat) (x22 : List D) (x23 : Nat) (x24 : List D) (x25 : Nat) (x26 : List D) (x27 : Int) (x28 : Nat) (x29 : List D) (x30 : Nat) (x31 : List D) (x32 : Nat) (x33 : List D) (x34 : Nat) (x35 : List D) (x36 : Int) (x37 : Int) (x38 : Int) (x39 : Bool) (x40 : Int) : Go.Ev.Rd → Option Go.Ev.Rd
  | .next 0 ds => law4_L24_S0 ka ca kb cb x0 x1 x2 x3 x4 x5 x6 x7 x8 x9 x10 x11 x12 x13 x14 x15 x16 x17 x18 x19 x20 x21 x22 x23 x24 x25 x26 x27 x28 x29 x30 x31 x32 x33 x34 x35 x36 x37 x38 x39 x40 ds
  | _ => none
theorem law4_L24_S_ok (ka : Nat) (ca : List D) (kb : Nat) (cb : List D) (x0 : Bool) (x1 : Bool) (x2 : Int) (x3 : Nat) (x4 : List D) (x5 : Nat) (x6 : List D) (x7 : Nat) (x8 : List D) (x9 : Int) (x10 : Nat) (x11 : List D) (x12 : Nat) (x13 : List D) (x14 : Nat) (x15 : List D) (x16 : Nat) (x17 : List D) (x18 : Int) (x19 : Nat) (x20 : List D) (x21 : Nat) (x22 : List D) (x23 : Nat) (x24 : List D) (x25 : Nat) (x26 : List D) (x27 : Int) (x28 : Nat) (x29 : List D) (x30 : Nat) (x31 : List D) (x32 : Nat) (x33 : List D) (x34 : Nat) (x35 : List D) (x36 : Int) (x37 : Int) (x38 : Int) (x39 : Bool) (x40 : Int) : ∀ s_ t_, law4_L24_S ka ca kb cb x0 x1 x2 x3 x4 x5 x6 x7 x8 x9 x10 x11 x12 x13 x14 x15 x16 x17 x18 x19 x20 x21 x22 x23 x24 x25 x26 x27 x28 x29 x30 x31 x32 x33 x34 x35 x36 x37 x38 x39 x40 s_ = some t_ → Step (ctx [4] law4_sp) Tabs law4_L24_A (stateOf (law4_L24_gs ka ca kb cb x0 x1 x2 x3 x4 x5 x6 x7 x8 x9 x10 x11 x12 x13 x14 x15 x16 x17 x18 x19 x20 x21 x22 x23 x24 x25 x26 x27 x28 x29 x30 x31 x32 x33 x34 x35 x36 x37 x38 x39 x40 s_)) (stateOf (law4_L24_gs ka ca kb cb x0 x1 x2 x3 x4 x5 x6 x7 x8 x9 x10 x11 x12 x13 x14 x15 x16 x17 x18 x19 x20 x21 x22 x23 x24 x25 x26 x27 x28 x29 x30 x31 x32 x33 x34 x35 x36 x37 x38 x39 x40 t_)) (law4_L24_ax t_) ∧ EndOK law4_L24_A.nx law4_L24_A.low (law4_L24_gs ka ca kb cb x0 x1 x2 x3 x4 x5 x6 x7 x8 x9 x10 x11 x12 x13 x14 x15 x16 x17 x18 x19 x20 x21 x22 x23 x24 x25 x26 x27 x28 x29 x30 x31 x32 x33 x34 x35 x36 x37 x38 x39 x40) t_
  | .next 0 ds, t_, h => by
    have h_ : law4_L24_S0 ka ca kb cb x0 x1 x2 x3 x4 x5 x6 x7 x8 x9 x10 x11 x12 x13 x14 x15 x16 x17 x18 x19 x20 x21 x22 x23 x24 x25 x26 x27 x28 x29 x30 x31 x32 x33 x34 x35 x36 x37 x38 x39 x40 ds = some t_ := h
    clear h
    unfold law4_L24_S0 at h_
    obtain ⟨⟨s14, s16⟩, e0, h0⟩ := pullD_elim h_
    clear h_
    obtain rfl := tup_inj e0
    by_cases b1_ : s16 < (ka : Int)
    · have h2_ := (if_pos b1_).symm.trans h0
      obtain ⟨f3_, h4_⟩ := guardP_elim h2_
      obtain ⟨v0, f5_, h6_⟩ := pullD_elim h4_
      replace f5_ := readD_elim f5_
      obtain ⟨f7_, h8_⟩ := guardP_elim h6_
      obtain ⟨v1, f9_, h10_⟩ := pullD_elim h8_
      replace f9_ := readD_elim f9_
      obtain ⟨f11_, h12_⟩ := guardP_elim h10_
      obtain ⟨v2, f13_, h14_⟩ := pullD_elim h12_
      replace f13_ := readD_elim f13_
      obtain ⟨v3, f15_, h16_⟩ := pullD_elim h14_
      replace f15_ := readD_elim f15_
      by_cases b17_ : v1 ≠ IntKind.i64.wrap (v2 + v3)
      · have h18_ := (if_pos b17_).symm.trans h16_
        obtain rfl := Option.some.inj h18_
        exact ⟨step_pc 3000 (bT 6 []) [iD v0, iD v1, iD v2, iD v3] [c_d b1_, c_f f3_, c_f f5_, c_f f7_, c_f f9_, c_f f11_, c_f f13_, c_f f3_, c_f f15_, c_b b17_, c_b b17_, c_b b17_, c_b b17_, c_T] [] _ rfl (by kernel_rfl) (by kernel_rfl) (by kernel_rfl) (by kernel_rfl) (by kernel_rfl) (by kernel_rfl), by kernel_rfl, by kernel_rfl⟩
      have h18_ := (if_neg b17_).symm.trans h16_
      have b19_ : v1 = IntKind.i64.wrap (v2 + v3) := by first | exact b17_ | simpa using b17_
      by_cases b20_ : (x39) = true
      · have h21_ := (if_pos b20_).symm.trans h18_
        obtain ⟨v4, f22_, h23_⟩ := pullD_elim h21_
        replace f22_ := readD_elim f22_
        by_cases b24_ : v4 ≠ (0 : Int)
        · have h25_ := (if_pos b24_).symm.trans h23_
          obtain rfl := Option.some.inj h25_
          exact ⟨step_pc 3000 (bT 1 (bF 2 (bT 7 (bF 1 (bT 1 (bF 1 (bT 1 []))))))) [iD v0, iD v1, iD v2, iD v3, iD v4] [c_d b1_, c_f f3_, c_f f5_, c_f f7_, c_f f9_, c_f f11_, c_f f13_, c_f f3_, c_f f15_, c_bn b19_, c_bn b19_, c_q b20_, c_q b20_, c_q b20_, c_q b20_, c_q b20_, c_f f3_, c_q b20_, c_f f22_, c_q b20_, c_bn b19_, c_q b20_, c_bn b19_, c_b b24_] [] _ rfl (by kernel_rfl) (by kernel_rfl) (by kernel_rfl) (by kernel_rfl) (by kernel_rfl) (by kernel_rfl), by kernel_rfl, by kernel_rfl⟩
        have h25_ := (if_neg b24_).symm.trans h23_
        have b26_ : v4 = (0 : Int) := by first | exact b24_ | simpa using b24_
        obtain rfl := Option.some.inj h25_
        exact ⟨step_pc 3000 (bT 1 (bF 2 (bT 7 (bF 1 (bT 1 (bF 2 [])))))) [iD v0, iD v1, iD v2, iD v3, iD v4] [c_d b1_, c_f f3_, c_f f5_, c_f f7_, c_f f9_, c_f f11_, c_f f13_, c_f f3_, c_f f15_, c_bn b19_, c_bn b19_, c_q b20_, c_q b20_, c_q b20_, c_q b20_, c_q b20_, c_f f3_, c_q b20_, c_f f22_, c_q b20_, c_bn b19_, c_q b20_, c_bn b19_, c_bn b26_] [] _ rfl (by kernel_rfl) (by kernel_rfl) (by kernel_rfl) (by kernel_rfl) (by kernel_rfl) (by kernel_rfl), trivial⟩
      have h21_ := (if_neg b20_).symm.trans h18_
      have b27_ : (x39) = false := by first | exact b20_ | simpa using b20_
      obtain rfl := Option.some.inj h21_
      exact ⟨step_pc 3000 (bT 1 (bF 13 [])) [iD v0, iD v1, iD v2, iD v3] [c_d b1_, c_f f3_, c_f f5_, c_f f7_, c_f f9_, c_f f11_, c_f f13_, c_f f3_, c_f f15_, c_bn b19_, c_bn b19_, c_q b27_, c_q b27_, c_q b27_, c_q b27_, c_q b27_, c_q b27_, c_q b27_, c_bn b19_, c_q b27_, c_bn b19_, c_F] [] _ rfl (by kernel_rfl) (by kernel_rfl) (by kernel_rfl) (by kernel_rfl) (by kernel_rfl) (by kernel_rfl), trivial⟩
    have h2_ := (if_neg b1_).symm.trans h0
    obtain rfl := Option.some.inj h2_
    exact ⟨step_pc 3000 (bF 1 []) [] [c_n b1_] [] _ rfl (by kernel_rfl) (by kernel_rfl) (by kernel_rfl) (by kernel_rfl) (by kernel_rfl) (by kernel_rfl), by kernel_rfl, by kernel_rfl⟩
  | .next (_ + 1) _, _, h => by cases h
  | .out _ _, _, h => by cases h
theorem law4_L24_go (ka : Nat) (ca : List D) (kb : Nat) (cb : List D) (x0 : Bool) (x1 : Bool) (x2 : Int) (x3 : Nat) (x4 : List D) (x5 : Nat) (x6 : List D) (x7 : Nat) (x8 : List D) (x9 : Int) (x10 : Nat) (x11 : List D) (x12 : Nat) (x13 : List D) (x14 : Nat) (x15 : List D) (x16 : Nat) (x17 : List D) (x18 : Int) (x19 : Nat) (x20 : List D) (x21 : Nat) (x22 : List D) (x23 : Nat) (x24 : List D) (x25 : Nat) (x26 : List D) (x27 : Int) (x28 : Nat) (x29 : List D) (x30 : Nat) (x31 : List D) (x32 : Nat) (x33 : List D) (x34 : Nat) (x35 : List D) (x36 : Int) (x37 : Int) (x38 : Int) (x39 : Bool) (x40 : Int) {q : Nat} {ds : List D} {j : Nat} {es : List D} (h : runR (law4_L24_S ka ca kb cb x0 x1 x2 x3 x4 x5 x6 x7 x8 x9 x10 x11 x12 x13 x14 x15 x16 x17 x18 x19 x20 x21 x22 x23 x24 x25 x26 x27 x28 x29 x30 x31 x32 x33 x34 x35 x36 x37 x38 x39 x40) (.next q ds) = some (.out j es)) : Runs (ctx [4] law4_sp) Tabs law4_L24_A (stateOf (law4_L24_gs ka ca kb cb x0 x1 x2 x3 x4 x5 x6 x7 x8 x9 x10 x11 x12 x13 x14 x15 x16 x17 x18 x19 x20 x21 x22 x23 x24 x25 x26 x27 x28 x29 x30 x31 x32 x33 x34 x35 x36 x37 x38 x39 x40 (.next q ds))) (stateOf (law4_L24_gs ka ca kb cb x0 x1 x2 x3 x4 x5 x6 x7 x8 x9 x10 x11 x12 x13 x14 x15 x16 x17 x18 x19 x20 x21 x22 x23 x24 x25 x26 x27 x28 x29 x30 x31 x32 x33 x34 x35 x36 x37 x38 x39 x40 (.out j es))) (law4_L24_ax (.out j es)) ∧ (nxtOf (law4_L24_gs ka ca kb cb x0 x1 x2 x3 x4 x5 x6 x7 x8 x9 x10 x11 x12 x13 x14 x15 x16 x17 x18 x19 x20 x21 x22 x23 x24 x25 x26 x27 x28 x29 x30 x31 x32 x33 x34 x35 x36 x37 x38 x39 x40 (.out j es)), lowGS (law4_L24_gs ka ca kb cb x0 x1 x2 x3 x4 x5 x6 x7 x8 x9 x10 x11 x12 x13 x14 x15 x16 x17 x18 x19 x20 x21 x22 x23 x24 x25 x26 x27 x28 x29 x30 x31 x32 x33 x34 x35 x36 x37 x38 x39 x40 (.out j es))) = (law4_L24_A.nx, law4_L24_A.low) :=
  runs_of' (good true _ _) law4_L24_ok (ax := law4_L24_ax) (fun _ _ => rfl) (fun _ _ => axOf_end _) (law4_L24_S_ok ka ca kb cb x0 x1 x2 x3 x4 x5 x6 x7 x8 x9 x10 x11 x12 x13 x14 x15 x16 x17 x18 x19 x20 x21 x22 x23 x24 x25 x26 x27 x28 x29 x30 x31 x32 x33 x34 x35 x36 x37 x38 x39 x40) h
theorem law4_L24_in0 (ka : Nat) (ca : List D) (kb : Nat) (cb : List D) (x0 : Bool) (x1 : Bool) (x2 : Int) (x3 : Nat) (x4 : List D) (x5 : Nat) (x6 : List D) (x7 : Nat) (x8 : List D) (x9 : Int) (x10 : Nat) (x11 : List D) (x12 : Nat) (x13 : List D) (x14 : Nat) (x15 : List D) (x16 : Nat) (x17 : List D) (x18 : Int) (x19 : Nat) (x20 : List D) (x21 : Nat) (x22 : List D) (x23 : Nat) (x24 : List D) (x25 : Nat) (x26 : List D) (x27 : Int) (x28 : Nat) (x29 : List D) (x30 : Nat) (x31 : List D) (x32 : Nat) (x33 : List D) (x34 : Nat) (x35 : List D) (x36 : Int) (x37 : Int) (x38 : Int) (x39 : Bool) (x40 : Int) {es : List D} (h : runR (law4_L24_S ka ca kb cb x0 x1 x2 x3 x4 x5 x6 x7 x8 x9 x10 x11 x12 x13 x14 x15 x16 x17 x18 x19 x20 x21 x22 x23 x24 x25 x26 x27 x28 x29 x30 x31 x32 x33 x34 x35 x36 x37 x38 x39 x40) (.next 0 [iD ((0 : Int)), iD ((0 : Int))]) = some (.out 0 es)) : LoopC (loopAt Try.prog 4 2) (law4_L24_E ka ca kb cb x0 x1 x2 x3 x4 x5 x6 x7 x8 x9 x10 x11 x12 x13 x14 x15 x16 x17 x18 x19 x20 x21 x22 x23 x24 x25 x26 x27 x28 x29 x30 x31 x32 x33 x34 x35 x36 x37 x38 x39 x40) 43 noFrame law4_x24_0 es :=
  have r := law4_L24_go ka ca kb cb x0 x1 x2 x3 x4 x5 x6 x7 x8 x9 x10 x11 x12 x13 x14 x15 x16 x17 x18 x19 x20 x21 x22 x23 x24 x25 x26 x27 x28 x29 x30 x31 x32 x33 x34 x35 x36 x37 x38 x39 x40 h
  loopin_as rfl (loop_in (l := law4_L24_A) (E := (law4_L24_E ka ca kb cb x0 x1 x2 x3 x4 x5 x6 x7 x8 x9 x10 x11 x12 x13 x14 x15 x16 x17 x18 x19 x20 x21 x22 x23 x24 x25 x26 x27 x28 x29 x30 x31 x32 x33 x34 x35 x36 x37 x38 x39 x40)) (S := stateOf (law4_L24_gs ka ca kb cb x0 x1 x2 x3 x4 x5 x6 x7 x8 x9 x10 x11 x12 x13 x14 x15 x16 x17 x18 x19 x20 x21 x22 x23 x24 x25 x26 x27 x28 x29 x30 x31 x32 x33 x34 x35 x36 x37 x38 x39 x40 (.next 0 [iD ((0 : Int)), iD ((0 : Int))]))) (ns := nsOf (law4_L24_gs ka ca kb cb x0 x1 x2 x3 x4 x5 x6 x7 x8 x9 x10 x11 x12 x13 x14 x15 x16 x17 x18 x19 x20 x21 x22 x23 x24 x25 x26 x27 x28 x29 x30 x31 x32 x33 x34 x35 x36 x37 x38 x39 x40 (.next 0 [iD ((0 : Int)), iD ((0 : Int))]))) law4_L24_ok r.1 r.2 (by kernel_rfl) (by kernel_rfl) (by kernel_rfl) (by kernel_rfl))
theorem law4_L24_in1 (ka : Nat) (ca : List D) (kb : Nat) (cb : List D) (x0 : Bool) (x1 : Bool) (x2 : Int) (x3 : Nat) (x4 : List D) (x5 : Nat) (x6 : List D) (x7 : Nat) (x8 : List D) (x9 : Int) (x10 : Nat) (x11 : List D) (x12 : Nat) (x13 : List D) (x14 : Nat) (x15 : List D) (x16 : Nat) (x17 : List D) (x18 : Int) (x19 : Nat) (x20 : List D) (x21 : Nat) (x22 : List D) (x23 : Nat) (x24 : List D) (x25 : Nat) (x26 : List D) (x27 : Int) (x28 : Nat) (x29 : List D) (x30 : Nat) (x31 : List D) (x32 : Nat) (x33 : List D) (x34 : Nat) (x35 : List D) (x36 : Int) (x37 : Int) (x38 : Int) (x39 : Bool) (x40 : Int) {es : List D} (h : runR (law4_L24_S ka ca kb cb x0 x1 x2 x3 x4 x5 x6 x7 x8 x9 x10 x11 x12 x13 x14 x15 x16 x17 x18 x19 x20 x21 x22 x23 x24 x25 x26 x27 x28 x29 x30 x31 x32 x33 x34 x35 x36 x37 x38 x39 x40) (.next 0 [iD ((0 : Int)), iD ((0 : Int))]) = some (.out 1 es)) : LoopC (loopAt Try.prog 4 2) (law4_L24_E ka ca kb cb x0 x1 x2 x3 x4 x5 x6 x7 x8 x9 x10 x11 x12 x13 x14 x15 x16 x17 x18 x19 x20 x21 x22 x23 x24 x25 x26 x27 x28 x29 x30 x31 x32 x33 x34 x35 x36 x37 x38 x39 x40) 43 noFrame law4_x24_1 es :=
  have r := law4_L24_go ka ca kb cb x0 x1 x2 x3 x4 x5 x6 x7 x8 x9 x10 x11 x12 x13 x14 x15 x16 x17 x18 x19 x20 x21 x22 x23 x24 x25 x26 x27 x28 x29 x30 x31 x32 x33 x34 x35 x36 x37 x38 x39 x40 h
  loopin_as rfl (loop_in (l := law4_L24_A) (E := (law4_L24_E ka ca kb cb x0 x1 x2 x3 x4 x5 x6 x7 x8 x9 x10 x11 x12 x13 x14 x15 x16 x17 x18 x19 x20 x21 x22 x23 x24 x25 x26 x27 x28 x29 x30 x31 x32 x33 x34 x35 x36 x37 x38 x39 x40)) (S := stateOf (law4_L24_gs ka ca kb cb x0 x1 x2 x3 x4 x5 x6 x7 x8 x9 x10 x11 x12 x13 x14 x15 x16 x17 x18 x19 x20 x21 x22 x23 x24 x25 x26 x27 x28 x29 x30 x31 x32 x33 x34 x35 x36 x37 x38 x39 x40 (.next 0 [iD ((0 : Int)), iD ((0 : Int))]))) (ns := nsOf (law4_L24_gs ka ca kb cb x0 x1 x2 x3 x4 x5 x6 x7 x8 x9 x10 x11 x12 x13 x14 x15 x16 x17 x18 x19 x20 x21 x22 x23 x24 x25 x26 x27 x28 x29 x30 x31 x32 x33 x34 x35 x36 x37 x38 x39 x40 (.next 0 [iD ((0 : Int)), iD ((0 : Int))]))) law4_L24_ok r.1 r.2 (by kernel_rfl) (by kernel_rfl) (by kernel_rfl) (by kernel_rfl))
def law4_L14_E (ka : Nat) (ca : List D) (kb : Nat) (cb : List D) (x0 : Bool) (x1 : Bool) (x2 : Int) (x3 : Nat) (x4 : List D) (x5 : Nat) (x6 : List D) (x7 : Nat) (x8 : List D) (x9 : Int) (x10 : Nat) (x11 : List D) (x12 : Nat) (x13 : List D) (x14 : Nat) (x15 : List D) (x16 : Nat) (x17 : List D) (x18 : Int) (x19 : Nat) (x20 : List D) (x21 : Nat) (x22 : List D) (x23 : Nat) (x24 : List D) (x25 : Nat) (x26 : List D) (x27 : Int) (x28 : Nat) (x29 : List D) (x30 : Nat) (x31 : List D) (x32 : Nat) (x33 : List D) (x34 : Nat) (x35 : List D) (x36 : Int) (x37 : Int) (x38 : Int) : List AV × AHeap := ([.agg [.dsl 0, .dsl 1], .ptr 2 0, .pure (.bool false), .pure (.int .i64 (ka : Int)), .dsl 5, .pure (.int .i64 x9), .ptr 10 0, .pure (.int .i64 x18), .ptr 15 0, .pure (.int .i64 x27), .ptr 20 0, .pure (.int .i64 x36), .pure (.bool true), .pure (.int .i64 (0 : Int)), .pure (.tuple #[]), .pure (.tuple #[]), .pure (.tuple #[]), .pure (.tuple #[]), .pure (.tuple #[]), .pure (.bool x0), .pure (.bool !x0), .agg [.dsl 0, .dsl 1], .pure (.bool x1), .pure (.bool !x1), .pure (.bool !x1), .agg [.dsl 0, .dsl 1], .pure (.int .i64 x2), .pure (.bool (x2 != (0 : Int))), .pure (.bool (x2 != (0 : Int))), .ptr 2 0, .dsl 0, .pure (.int .i64 (ka : Int)), .tuple [.dsl 5, .pure (.int .i64 x9)], .agg [.dsl 0, .dsl 1], .agg [.dsl 3, .dsl 4], .tuple [.dsl 5, .pure (.int .i64 x9)], .dsl 5, .pure (.int .i64 x9), .tuple [.agg [.dsl 8, .dsl 9], .pure (.int .i64 x18)], .agg [.dsl 0, .dsl 1], .agg [.dsl 6, .dsl 7], .tuple [.agg [.dsl 8, .dsl 9], .pure (.int .i64 x18)], .agg [.dsl 8, .dsl 9], .pure (.int .i64 x18), .tuple [.agg [.dsl 13, .dsl 14], .pure (.int .i64 x27)], .agg [.dsl 0, .dsl 1], .agg [.dsl 11, .dsl 12], .tuple [.agg [.dsl 13, .dsl 14], .pure (.int .i64 x27)], .agg [.dsl 13, .dsl 14], .pure (.int .i64 x27), .tuple [.agg [.dsl 18, .dsl 19], .pure (.int .i64 x36)], .agg [.dsl 0, .dsl 1], .agg [.dsl 16, .dsl 17], .tuple [.agg [.dsl 18, .dsl 19], .pure (.int .i64 x36)], .agg [.dsl 18, .dsl 19], .pure (.int .i64 x36), .pure (.int .i64 x9), .pure (.bool (x9 != (0 : Int))), .pure (.bool (x9 != (0 : Int))), .pure (.int .i64 x18), .pure (.bool (x18 != (0 : Int))), .pure (.bool (x18 != (0 : Int))), .pure (.bool (x18 != (0 : Int))), .pure (.int .i64 x27), .pure (.bool (x27 != (0 : Int))), .pure (.bool (x27 != (0 : Int))), .pure (.bool (x27 != (0 : Int))), .pure (.int .i64 x36), .pure (.bool (x36 != (0 : Int))), .pure (.bool (x36 != (0 : Int))), .pure (.bool (x36 != (0 : Int))), .dsl 5, .pure (.int .i64 (x7 : Int)), .pure (.int .i64 (ka : Int)), .pure (.int .i64 (IntKind.i64.wrap ((ka : Int) + (1 : Int)))), .pure (.bool ((x7 : Int) != IntKind.i64.wrap ((ka : Int) + (1 : Int)))), .pure (.bool ((x7 : Int) != IntKind.i64.wrap ((ka : Int) + (1 : Int)))), .pure (.bool ((x7 : Int) != IntKind.i64.wrap ((ka : Int) + (1 : Int)))), .dsl 5, .dptr 5 0, .pure (.int .i64 x37), .pure (.bool (x37 != (0 : Int))), .pure (.bool (x37 != (0 : Int))), .pure (.bool (x37 != (0 : Int))), .dsl 5, .pure (.int .i64 (ka : Int)), .dptr 5 (((ka : Int)).toNat * 1), .pure (.int .i64 x38), .pure (.bool (x38 != (0 : Int))), .pure (.bool (x38 != (0 : Int))), .pure (.tuple #[]), .pure (.tuple #[]), .pure (.tuple #[]), .pure (.tuple #[]), .pure (.tuple #[]), .pure (.tuple #[]), .pure (.tuple #[]), .pure (.tuple #[]), .pure (.tuple #[]), .pure (.tuple #[]), .pure (.tuple #[]), .pure (.tuple #[]), .pure (.tuple #[]), .pure (.tuple #[]), .pure (.tuple #[]), .pure (.tuple #[]), .pure (.tuple #[]), .pure (.tuple #[]), .pure (.tuple #[]), .pure (.tuple #[]), .pure (.tuple #[]), .pure (.tuple #[]), .pure (.tuple #[]), .pure (.tuple #[]), .pure (.tuple #[]), .pure (.tuple #[]), .pure (.tuple #[]), .pure (.tuple #[]), .pure (.tuple #[]), .pure (.tuple #[]), .pure (.tuple #[]), .pure (.tuple #[]), .pure (.tuple #[]), .pure (.tuple #[]), .pure (.tuple #[]), .pure (.tuple #[]), .pure (.tuple #[]), .pure (.tuple #[]), .pure (.tuple #[]), .pure (.tuple #[]), .pure (.tuple #[]), .pure (.tuple #[]), .pure (.tuple #[]), .pure (.tuple #[]), .pure (.tuple #[]), .pure (.tuple #[]), .pure (.tuple #[]), .pure (.tuple #[]), .pure (.tuple #[]), .pure (.tuple #[]), .pure (.tuple #[]), .pure (.tuple #[]), .pure (.tuple #[]), .pure (.tuple #[]), .pure (.tuple #[]), .pure (.tuple #[]), .pure (.tuple #[]), .pure (.tuple #[]), .pure (.tuple #[]), .pure (.tuple #[]), .pure (.tuple #[]), .pure (.tuple #[]), .pure (.tuple #[]), .pure (.tuple #[]), .pure (.tuple #[]), .pure (.tuple #[]), .pure (.tuple #[]), .pure (.tuple #[]), .pure (.tuple #[]), .pure (.tuple #[]), .pure (.tuple #[]), .pure (.tuple #[]), .pure (.tuple #[]), .pure (.tuple #[]), .pure (.tuple #[]), .pure (.tuple #[]), .pure (.tuple #[]), .pure (.tuple #[]), .pure (.tuple #[]), .pure (.tuple #[]), .pure (.tuple #[]), .pure (.tuple #[]), .pure (.tuple #[]), .pure (.tuple #[]), .pure (.tuple #[]), .pure (.tuple #[]), .pure (.tuple #[]), .pure (.tuple #[]), .pure (.tuple #[]), .pure (.tuple #[]), .pure (.tuple #[]), .pure (.tuple #[]), .pure (.tuple #[]), .pure (.tuple #[]), .pure (.tuple #[]), .pure (.tuple #[]), .pure (.tuple #[]), .pure (.tuple #[]), .pure (.tuple #[]), .pure (.tuple #[]), .pure (.tuple #[]), .pure (.tuple #[]), .pure (.tuple #[]), .pure (.tuple #[]), .pure (.tuple #[]), .pure (.tuple #[]), .pure (.tuple #[]), .pure (.tuple #[]), .pure (.tuple #[]), .pure (.tuple #[]), .pure (.tuple #[]), .pure (.tuple #[]), .pure (.tuple #[]), .pure (.tuple #[]), .pure (.tuple #[]), .pure (.tuple #[]), .pure (.tuple #[]), .pure (.tuple #[]), .pure (.tuple #[]), .pure (.tuple #[]), .pure (.tuple #[]), .pure (.tuple #[]), .pure (.tuple #[]), .pure (.tuple #[]), .pure (.tuple #[]), .pure (.tuple #[]), .pure (.tuple #[]), .pure (.tuple #[]), .pure (.tuple #[]), .pure (.tuple #[]), .pure (.tuple #[]), .pure (.tuple #[]), .pure (.tuple #[]), .pure (.tuple #[])], [(20, { cells := [.dsl 18, .dsl 19], opn := none, kind := .cells }), (19, { cells := [], opn := none, kind := .deep x34 x35 }), (18, { cells := [], opn := none, kind := .deep x32 x33 }), (17, { cells := [], opn := none, kind := .deep x30 x31 }), (16, { cells := [], opn := none, kind := .deep x28 x29 }), (15, { cells := [.dsl 13, .dsl 14], opn := none, kind := .cells }), (14, { cells := [], opn := none, kind := .deep x25 x26 }), (13, { cells := [], opn := none, kind := .deep x23 x24 }), (12, { cells := [], opn := none, kind := .deep x21 x22 }), (11, { cells := [], opn := none, kind := .deep x19 x20 }), (10, { cells := [.dsl 8, .dsl 9], opn := none, kind := .cells }), (9, { cells := [], opn := none, kind := .deep x16 x17 }), (8, { cells := [], opn := none, kind := .deep x14 x15 }), (7, { cells := [], opn := none, kind := .deep x12 x13 }), (6, { cells := [], opn := none, kind := .deep x10 x11 }), (5, { cells := [], opn := none, kind := .deep x7 x8 }), (4, { cells := [], opn := none, kind := .deep x5 x6 }), (3, { cells := [], opn := none, kind := .deep x3 x4 }), (2, { cells := [.dsl 0, .dsl 1], opn := none, kind := .cells }), (1, { cells := [], opn := none, kind := .deep kb cb }), (0, { cells := [], opn := none, kind := .deep ka ca })])
def law4_L14_A : LoopAt := ⟨4, loopAt Try.prog 4 0, 21, 43, 21, noFrame⟩
theorem law4_L14_ok : (law4_L14_A).OK := ⟨by show 21 ≤ 43; decide, by show 21 ≤ 21; decide, by kernel_rfl, rfl⟩
def law4_L14_gs (ka : Nat) (ca : List D) (kb : Nat) (cb : List D) (x0 : Bool) (x1 : Bool) (x2 : Int) (x3 : Nat) (x4 : List D) (x5 : Nat) (x6 : List D) (x7 : Nat) (x8 : List D) (x9 : Int) (x10 : Nat) (x11 : List D) (x12 : Nat) (x13 : List D) (x14 : Nat) (x15 : List D) (x16 : Nat) (x17 : List D) (x18 : Int) (x19 : Nat) (x20 : List D) (x21 : Nat) (x22 : List D) (x23 : Nat) (x24 : List D) (x25 : Nat) (x26 : List D) (x27 : Int) (x28 : Nat) (x29 : List D) (x30 : Nat) (x31 : List D) (x32 : Nat) (x33 : List D) (x34 : Nat) (x35 : List D) (x36 : Int) (x37 : Int) (x38 : Int) : Go.Ev.Rd → Option GS
  | .next 0 ds => ghost [.val 12, .val 13] (List.range' 90 20) (law4_L14_E ka ca kb cb x0 x1 x2 x3 x4 x5 x6 x7 x8 x9 x10 x11 x12 x13 x14 x15 x16 x17 x18 x19 x20 x21 x22 x23 x24 x25 x26 x27 x28 x29 x30 x31 x32 x33 x34 x35 x36 x37 x38).1 (law4_L14_E ka ca kb cb x0 x1 x2 x3 x4 x5 x6 x7 x8 x9 x10 x11 x12 x13 x14 x15 x16 x17 x18 x19 x20 x21 x22 x23 x24 x25 x26 x27 x28 x29 x30 x31 x32 x33 x34 x35 x36 x37 x38).2 21 ds
  | .out 0 ds => ghost law4_x14_0.live law4_x14_0.junk (law4_L14_E ka ca kb cb x0 x1 x2 x3 x4 x5 x6 x7 x8 x9 x10 x11 x12 x13 x14 x15 x16 x17 x18 x19 x20 x21 x22 x23 x24 x25 x26 x27 x28 x29 x30 x31 x32 x33 x34 x35 x36 x37 x38).1 (law4_L14_E ka ca kb cb x0 x1 x2 x3 x4 x5 x6 x7 x8 x9 x10 x11 x12 x13 x14 x15 x16 x17 x18 x19 x20 x21 x22 x23 x24 x25 x26 x27 x28 x29 x30 x31 x32 x33 x34 x35 x36 x37 x38).2 21 ds
  | _ => none
def law4_L14_ex : Nat → Option Nat
  | 0 => law4_x14_0.ex
  | _ => none
def law4_L14_ax : Go.Ev.Rd → AX
  | .next _ _ => .normal
  | .out j _ => axOf (law4_L14_ex j)
def law4_L14_S0 (ka : Nat) (ca : List D) (kb : Nat) (cb : List D) (x0 : Bool) (x1 : Bool) (x2 : Int) (x3 : Nat) (x4 : List D) (x5 : Nat) (x6 : List D) (x7 : Nat) (x8 : List D) (x9 : Int) (x10 : Nat) (x11 : List D) (x12 : Nat) (x13 : List D) (x14 : Nat) (x15 : List D) (x16 : Nat) (x17 : List D) (x18 : Int) (x19 : Nat) (x20 : List D) (x21 : Nat) (x22 : List D) (x23 : Nat) (x24 : List D) (x25 : Nat) (x26 : List D) (x27 : Int) (x28 : Nat) (x29 : List D) (x30 : Nat) (x31 : List D) (x32 : Nat) (x33 : List D) (x34 : Nat) (x35 : List D) (x36 : Int) (x37 : Int) (x38 : Int) (ds : List D) : Option Go.Ev.Rd := pullD (α := Bool × Int) (some (.tup ds)) (fun d => ((D.vb (D.at d 0)), (D.vi (D.at d 1)))) (fun (s12, s13) => .tup [.one (.bool s12), iD s13]) fun (s12, s13) => ((if s13 < (ka : Int) then (if (s12) = true then guardP ((0 : Int) ≤ s13 ∧ s13.toNat < ka) (pullD (α := Int) (readD ca (s13.toNat * 1) 1 false) (fun d => ((D.vi d))) (fun v0 => iD v0) fun v0 => (guardP ((0 : Int) ≤ s13 ∧ s13.toNat < kb) (pullD (α := Int) (readD cb (s13.toNat * 1) 1 false) (fun d => ((D.vi d))) (fun v1 => iD v1) fun v1 => (some (.next 0 [.one (.bool (v0 == IntKind.i64.wrap ((0 : Int) - v1))), iD (IntKind.i64.wrap (s13 + (1 : Int)))]))))) else some (.next 0 [.one (.bool false), iD (IntKind.i64.wrap (s13 + (1 : Int)))])) else some (.out 0 [.one (.bool s12)])))
def law4_L14_S (ka : Nat) (ca : List D) (kb : Nat) (cb : List D) (x0 : Bool) (x1 : Bool) (x2 : Int) (x3 : Nat) (x4 : List D) (x5 : Nat) (x6 : List D) (x7 : Nat) (x8 : List D) (x9 : Int) (x10 : Nat) (x11 : List D) (x12 : Nat) (x13 : List D) (x14 : Nat) (x15 : List D) (x16 : Nat) (x17 : List D) (x18 : Int) (x19 : Nat) (x20 : List D) (x21 : Nat) (x22 : List D) (x23 : Nat) (x24 : List D) (x25 : Nat) (x26 : List D) (x27 : Int) (x28 : Nat) (x29 : List D) (x30 : Nat) (x31 : List D) (x32 : Nat) (x33 : List D) (x34 : Nat) (x35 : List D) (x36 : Int) (x37 : Int) (x38 : Int) : Go.Ev.Rd → Option Go.Ev.Rd
  | .next 0 ds => law4_L14_S0 ka ca kb cb x0 x1 x2 x3 x4 x5 x6 x7 x8 x9 x10 x11 x12 x13 x14 x15 x16 x17 x18 x19 x20 x21 x22 x23 x24 x25 x26 x27 x28 x29 x30 x31 x32 x33 x34 x35 x36 x37 x38 ds
  | _ => none
theorem law4_L14_S_ok (ka : Nat) (ca : List D) (kb : Nat) (cb : List D) (x0 : Bool) (x1 : Bool) (x2 : Int) (x3 : Nat) (x4 : List D) (x5 : Nat) (x6 : List D) (x7 : Nat) (x8 : List D) (x9 : Int) (x10 : Nat) (x11 : List D) (x12 : Nat) (x13 : List D) (x14 : Nat) (x15 : List D) (x16 : Nat) (x17 : List D) (x18 : Int) (x19 : Nat) (x20 : List D) (x21 : Nat) (x22 : List D) (x23 : Nat) (x24 : List D) (x25 : Nat) (x26 : List D) (x27 : Int) (x28 : Nat) (x29 : List D) (x30 : Nat) (x31 : List D) (x32 : Nat) (x33 : List D) (x34 : Nat) (x35 : List D) (x36 : Int) (x37 : Int) (x38 : Int) : ∀ s_ t_, law4_L14_S ka ca kb cb x0 x1 x2 x3 x4 x5 x6 x7 x8 x9 x10 x11 x12 x13 x14 x15 x16 x17 x18 x19 x20 x21 x22 x23 x24 x25 x26 x27 x28 x29 x30 x31 x32 x33 x34 x35 x36 x37 x38 s_ = some t_ → Step (ctx [4] law4_sp) Tabs law4_L14_A (stateOf (law4_L14_gs ka ca kb cb x0 x1 x2 x3 x4 x5 x6 x7 x8 x9 x10 x11 x12 x13 x14 x15 x16 x17 x18 x19 x20 x21 x22 x23 x24 x25 x26 x27 x28 x29 x30 x31 x32 x33 x34 x35 x36 x37 x38 s_)) (stateOf (law4_L14_gs ka ca kb cb x0 x1 x2 x3 x4 x5 x6 x7 x8 x9 x10 x11 x12 x13 x14 x15 x16 x17 x18 x19 x20 x21 x22 x23 x24 x25 x26 x27 x28 x29 x30 x31 x32 x33 x34 x35 x36 x37 x38 t_)) (law4_L14_ax t_) ∧ EndOK law4_L14_A.nx law4_L14_A.low (law4_L14_gs ka ca kb cb x0 x1 x2 x3 x4 x5 x6 x7 x8 x9 x10 x11 x12 x13 x14 x15 x16 x17 x18 x19 x20 x21 x22 x23 x24 x25 x26 x27 x28 x29 x30 x31 x32 x33 x34 x35 x36 x37 x38) t_
  | .next 0 ds, t_, h => by
    have h_ : law4_L14_S0 ka ca kb cb x0 x1 x2 x3 x4 x5 x6 x7 x8 x9 x10 x11 x12 x13 x14 x15 x16 x17 x18 x19 x20 x21 x22 x23 x24 x25 x26 x27 x28 x29 x30 x31 x32 x33 x34 x35 x36 x37 x38 ds = some t_ := h
    clear h
    unfold law4_L14_S0 at h_
    obtain ⟨⟨s12, s13⟩, e0, h0⟩ := pullD_elim h_
    clear h_
    obtain rfl := tup_inj e0
    by_cases b1_ : s13 < (ka : Int)
    · have h2_ := (if_pos b1_).symm.trans h0
      by_cases b3_ : (s12) = true
      · have h4_ := (if_pos b3_).symm.trans h2_
        obtain ⟨f5_, h6_⟩ := guardP_elim h4_
        obtain ⟨v0, f7_, h8_⟩ := pullD_elim h6_
        replace f7_ := readD_elim f7_
        obtain ⟨f9_, h10_⟩ := guardP_elim h8_
        obtain ⟨v1, f11_, h12_⟩ := pullD_elim h10_
        replace f11_ := readD_elim f11_
        obtain rfl := Option.some.inj h12_
        exact ⟨step_pc 3000 (bT 14 []) [iD v0, iD v1] [c_d b1_, c_q b3_, c_q b3_, c_q b3_, c_q b3_, c_f f5_, c_q b3_, c_f f7_, c_q b3_, c_q b3_, c_q b3_, c_q b3_, c_f f9_, c_q b3_, c_f f11_, c_q b3_, c_q b3_, c_q b3_] [] _ rfl (by kernel_rfl) (by kernel_rfl) (by kernel_rfl) (by kernel_rfl) (by kernel_rfl) (by kernel_rfl), trivial⟩
      have h4_ := (if_neg b3_).symm.trans h2_
      have b13_ : (s12) = false := by first | exact b3_ | simpa using b3_
      obtain rfl := Option.some.inj h4_
      exact ⟨step_pc 3000 (bT 1 (bF 13 [])) [] [c_d b1_, c_q b13_, c_q b13_, c_q b13_, c_q b13_, c_q b13_, c_q b13_, c_q b13_, c_q b13_, c_q b13_, c_q b13_, c_q b13_, c_q b13_, c_q b13_] [] _ rfl (by kernel_rfl) (by kernel_rfl) (by kernel_rfl) (by kernel_rfl) (by kernel_rfl) (by kernel_rfl), trivial⟩
    have h2_ := (if_neg b1_).symm.trans h0
    obtain rfl := Option.some.inj h2_
    exact ⟨step_pc 3000 (bF 1 []) [] [c_n b1_] [] _ rfl (by kernel_rfl) (by kernel_rfl) (by kernel_rfl) (by kernel_rfl) (by kernel_rfl) (by kernel_rfl), by kernel_rfl, by kernel_rfl⟩
  | .next (_ + 1) _, _, h => by cases h
  | .out _ _, _, h => by cases h
theorem law4_L14_go (ka : Nat) (ca : List D) (kb : Nat) (cb : List D) (x0 : Bool) (x1 : Bool) (x2 : Int) (x3 : Nat) (x4 : List D) (x5 : Nat) (x6 : List D) (x7 : Nat) (x8 : List D) (x9 : Int) (x10 : Nat) (x11 : List D) (x12 : Nat) (x13 : List D) (x14 : Nat) (x15 : List D) (x16 : Nat) (x17 : List D) (x18 : Int) (x19 : Nat) (x20 : List D) (x21 : Nat) (x22 : List D) (x23 : Nat) (x24 : List D) (x25 : Nat) (x26 : List D) (x27 : Int) (x28 : Nat) (x29 : List D) (x30 : Nat) (x31 : List D) (x32 : Nat) (x33 : List D) (x34 : Nat) (x35 : List D) (x36 : Int) (x37 : Int) (x38 : Int) {q : Nat} {ds : List D} {j : Nat} {es : List D} (h : runR (law4_L14_S ka ca kb cb x0 x1 x2 x3 x4 x5 x6 x7 x8 x9 x10 x11 x12 x13 x14 x15 x16 x17 x18 x19 x20 x21 x22 x23 x24 x25 x26 x27 x28 x29 x30 x31 x32 x33 x34 x35 x36 x37 x38) (.next q ds) = some (.out j es)) : Runs (ctx [4] law4_sp) Tabs law4_L14_A (stateOf (law4_L14_gs ka ca kb cb x0 x1 x2 x3 x4 x5 x6 x7 x8 x9 x10 x11 x12 x13 x14 x15 x16 x17 x18 x19 x20 x21 x22 x23 x24 x25 x26 x27 x28 x29 x30 x31 x32 x33 x34 x35 x36 x37 x38 (.next q ds))) (stateOf (law4_L14_gs ka ca kb cb x0 x1 x2 x3 x4 x5 x6 x7 x8 x9 x10 x11 x12 x13 x14 x15 x16 x17 x18 x19 x20 x21 x22 x23 x24 x25 x26 x27 x28 x29 x30 x31 x32 x33 x34 x35 x36 x37 x38 (.out j es))) (law4_L14_ax (.out j es)) ∧ (nxtOf (law4_L14_gs ka ca kb cb x0 x1 x2 x3 x4 x5 x6 x7 x8 x9 x10 x11 x12 x13 x14 x15 x16 x17 x18 x19 x20 x21 x22 x23 x24 x25 x26 x27 x28 x29 x30 x31 x32 x33 x34 x35 x36 x37 x38 (.out j es)), lowGS (law4_L14_gs ka ca kb cb x0 x1 x2 x3 x4 x5 x6 x7 x8 x9 x10 x11 x12 x13 x14 x15 x16 x17 x18 x19 x20 x21 x22 x23 x24 x25 x26 x27 x28 x29 x30 x31 x32 x33 x34 x35 x36 x37 x38 (.out j es))) = (law4_L14_A.nx, law4_L14_A.low) :=
  runs_of' (good true _ _) law4_L14_ok (ax := law4_L14_ax) (fun _ _ => rfl) (fun _ _ => axOf_end _) (law4_L14_S_ok ka ca kb cb x0 x1 x2 x3 x4 x5 x6 x7 x8 x9 x10 x11 x12 x13 x14 x15 x16 x17 x18 x19 x20 x21 x22 x23 x24 x25 x26 x27 x28 x29 x30 x31 x32 x33 x34 x35 x36 x37 x38) h
theorem law4_L14_in0 (ka : Nat) (ca : List D) (kb : Nat) (cb : List D) (x0 : Bool) (x1 : Bool) (x2 : Int) (x3 : Nat) (x4 : List D) (x5 : Nat) (x6 : List D) (x7 : Nat) (x8 : List D) (x9 : Int) (x10 : Nat) (x11 : List D) (x12 : Nat) (x13 : List D) (x14 : Nat) (x15 : List D) (x16 : Nat) (x17 : List D) (x18 : Int) (x19 : Nat) (x20 : List D) (x21 : Nat) (x22 : List D) (x23 : Nat) (x24 : List D) (x25 : Nat) (x26 : List D) (x27 : Int) (x28 : Nat) (x29 : List D) (x30 : Nat) (x31 : List D) (x32 : Nat) (x33 : List D) (x34 : Nat) (x35 : List D) (x36 : Int) (x37 : Int) (x38 : Int) {es : List D} (h : runR (law4_L14_S ka ca kb cb x0 x1 x2 x3 x4 x5 x6 x7 x8 x9 x10 x11 x12 x13 x14 x15 x16 x17 x18 x19 x20 x21 x22 x23 x24 x25 x26 x27 x28 x29 x30 x31 x32 x33 x34 x35 x36 x37 x38) (.next 0 [.one (.bool (true)), iD ((0 : Int))]) = some (.out 0 es)) : LoopC (loopAt Try.prog 4 0) (law4_L14_E ka ca kb cb x0 x1 x2 x3 x4 x5 x6 x7 x8 x9 x10 x11 x12 x13 x14 x15 x16 x17 x18 x19 x20 x21 x22 x23 x24 x25 x26 x27 x28 x29 x30 x31 x32 x33 x34 x35 x36 x37 x38) 21 noFrame law4_x14_0 es :=
  have r := law4_L14_go ka ca kb cb x0 x1 x2 x3 x4 x5 x6 x7 x8 x9 x10 x11 x12 x13 x14 x15 x16 x17 x18 x19 x20 x21 x22 x23 x24 x25 x26 x27 x28 x29 x30 x31 x32 x33 x34 x35 x36 x37 x38 h
  loopin_as rfl (loop_in (l := law4_L14_A) (E := (law4_L14_E ka ca kb cb x0 x1 x2 x3 x4 x5 x6 x7 x8 x9 x10 x11 x12 x13 x14 x15 x16 x17 x18 x19 x20 x21 x22 x23 x24 x25 x26 x27 x28 x29 x30 x31 x32 x33 x34 x35 x36 x37 x38)) (S := stateOf (law4_L14_gs ka ca kb cb x0 x1 x2 x3 x4 x5 x6 x7 x8 x9 x10 x11 x12 x13 x14 x15 x16 x17 x18 x19 x20 x21 x22 x23 x24 x25 x26 x27 x28 x29 x30 x31 x32 x33 x34 x35 x36 x37 x38 (.next 0 [.one (.bool (true)), iD ((0 : Int))]))) (ns := nsOf (law4_L14_gs ka ca kb cb x0 x1 x2 x3 x4 x5 x6 x7 x8 x9 x10 x11 x12 x13 x14 x15 x16 x17 x18 x19 x20 x21 x22 x23 x24 x25 x26 x27 x28 x29 x30 x31 x32 x33 x34 x35 x36 x37 x38 (.next 0 [.one (.bool (true)), iD ((0 : Int))]))) law4_L14_ok r.1 r.2 (by kernel_rfl) (by kernel_rfl) (by kernel_rfl) (by kernel_rfl))
def law4_M (ka : Nat) (ca : List D) (kb : Nat) (cb : List D) : Option D := pullD (α := Bool) (m_8 []) (fun d => ((D.vb d))) (fun r0 => .one (.bool r0)) fun r0 => ((if r0 = false then some (.one (.bool false)) else pullD (α := Bool) (m_9 [.agg [.list ka ca, .list kb cb]]) (fun d => ((D.vb d))) (fun r1 => .one (.bool r1)) fun r1 => ((if r1 = false then some (.one (.bool true)) else pullD (α := Int) (m_16 [.agg [.list ka ca, .list kb cb]]) (fun d => ((D.vi d))) (fun r2 => iD r2) fun r2 => ((if r2 ≠ (0 : Int) then some (.one (.bool true)) else pullD (α := Nat × (List D) × Nat × (List D)) (m_11 [.agg [.list ka ca, .list kb cb]]) (fun d => ((D.ln (D.at d 0)), (D.lc (D.at d 0)), (D.ln (D.at d 1)), (D.lc (D.at d 1)))) (fun (k3, c4, k5, c6) => .agg [.list k3 c4, .list k5 c6]) fun (k3, c4, k5, c6) => (pullD (α := Nat × (List D) × Int) (m_10 [.agg [.list k3 c4, .list k5 c6]]) (fun d => ((D.ln (D.at d 0)), (D.lc (D.at d 0)), (D.vi (D.at d 1)))) (fun (k7, c8, r9) => .tup [.list k7 c8, iD r9]) fun (k7, c8, r9) => (pullD (α := Nat × (List D) × Nat × (List D)) (m_11 [.agg [.list ka ca, .list kb cb]]) (fun d => ((D.ln (D.at d 0)), (D.lc (D.at d 0)), (D.ln (D.at d 1)), (D.lc (D.at d 1)))) (fun (k10, c11, k12, c13) => .agg [.list k10 c11, .list k12 c13]) fun (k10, c11, k12, c13) => (pullD (α := Nat × (List D) × Nat × (List D) × Int) (m_12 [.agg [.list k10 c11, .list k12 c13]]) (fun d => ((D.ln (D.at (D.at d 0) 0)), (D.lc (D.at (D.at d 0) 0)), (D.ln (D.at (D.at d 0) 1)), (D.lc (D.at (D.at d 0) 1)), (D.vi (D.at d 1)))) (fun (k14, c15, k16, c17, r18) => .tup [.agg [.list k14 c15, .list k16 c17], iD r18]) fun (k14, c15, k16, c17, r18) => (pullD (α := Nat × (List D) × Nat × (List D)) (m_11 [.agg [.list ka ca, .list kb cb]]) (fun d => ((D.ln (D.at d 0)), (D.lc (D.at d 0)), (D.ln (D.at d 1)), (D.lc (D.at d 1)))) (fun (k19, c20, k21, c22) => .agg [.list k19 c20, .list k21 c22]) fun (k19, c20, k21, c22) => (pullD (α := Nat × (List D) × Nat × (List D) × Int) (m_13 [.agg [.list k19 c20, .list k21 c22]]) (fun d => ((D.ln (D.at (D.at d 0) 0)), (D.lc (D.at (D.at d 0) 0)), (D.ln (D.at (D.at d 0) 1)), (D.lc (D.at (D.at d 0) 1)), (D.vi (D.at d 1)))) (fun (k23, c24, k25, c26, r27) => .tup [.agg [.list k23 c24, .list k25 c26], iD r27]) fun (k23, c24, k25, c26, r27) => (pullD (α := Nat × (List D) × Nat × (List D)) (m_11 [.agg [.list ka ca, .list kb cb]]) (fun d => ((D.ln (D.at d 0)), (D.lc (D.at d 0)), (D.ln (D.at d 1)), (D.lc (D.at d 1)))) (fun (k28, c29, k30, c31) => .agg [.list k28 c29, .list k30 c31]) fun (k28, c29, k30, c31) => (pullD (α := Nat × (List D) × Nat × (List D) × Int) (m_14 [.agg [.list k28 c29, .list k30 c31]]) (fun d => ((D.ln (D.at (D.at d 0) 0)), (D.lc (D.at (D.at d 0) 0)), (D.ln (D.at (D.at d 0) 1)), (D.lc (D.at (D.at d 0) 1)), (D.vi (D.at d 1)))) (fun (k32, c33, k34, c35, r36) => .tup [.agg [.list k32 c33, .list k34 c35], iD r36]) fun (k32, c33, k34, c35, r36) => ((if r9 ≠ (0 : Int) then some (.one (.bool false)) else (if r18 ≠ (0 : Int) then some (.one (.bool false)) else (if r27 ≠ (0 : Int) then some (.one (.bool false)) else (if r36 ≠ (0 : Int) then some (.one (.bool false)) else (if (k7 : Int) ≠ IntKind.i64.wrap ((ka : Int) + (1 : Int)) then some (.one (.bool false)) else guardP ((0 : Int) ≤ (0 : Int) ∧ Int.toNat (0 : Int) < k7) (pullD (α := Int) (readD c8 (Int.toNat (0 : Int) * 1) 1 false) (fun d => ((D.vi d))) (fun v37 => iD v37) fun v37 => ((if v37 ≠ (0 : Int) then some (.one (.bool false)) else guardP ((0 : Int) ≤ (ka : Int) ∧ ((ka : Int)).toNat < k7) (pullD (α := Int) (readD c8 (((ka : Int)).toNat * 1) 1 false) (fun d => ((D.vi d))) (fun v38 => iD v38) fun v38 => ((if v38 ≠ (0 : Int) then some (.one (.bool false)) else bindL (runR (law4_L14_S ka ca kb cb r0 r1 r2 k3 c4 k5 c6 k7 c8 r9 k10 c11 k12 c13 k14 c15 k16 c17 r18 k19 c20 k21 c22 k23 c24 k25 c26 r27 k28 c29 k30 c31 k32 c33 k34 c35 r36 v37 v38) (.next 0 [.one (.bool (true)), iD ((0 : Int))])) fun j ds => (if j = 0 then pullD (α := Bool) (some (.tup ds)) (fun d => ((D.vb (D.at d 0)))) (fun l39 => .tup [.one (.bool l39)]) fun l39 => ((if (k14 : Int) ≠ (ka : Int) then some (.one (.bool false)) else (if (k23 : Int) ≠ IntKind.i64.wrap ((ka : Int) + (1 : Int)) then some (.one (.bool false)) else (if (k32 : Int) ≠ (ka : Int) then some (.one (.bool false)) else guardP ((0 : Int) ≤ (0 : Int) ∧ Int.toNat (0 : Int) < k23) (pullD (α := Int) (readD c24 (Int.toNat (0 : Int) * 1) 1 false) (fun d => ((D.vi d))) (fun v40 => iD v40) fun v40 => ((if v40 ≠ (0 : Int) then some (.one (.bool false)) else bindL (runR (law4_L24_S ka ca kb cb r0 r1 r2 k3 c4 k5 c6 k7 c8 r9 k10 c11 k12 c13 k14 c15 k16 c17 r18 k19 c20 k21 c22 k23 c24 k25 c26 r27 k28 c29 k30 c31 k32 c33 k34 c35 r36 v37 v38 l39 v40) (.next 0 [iD ((0 : Int)), iD ((0 : Int))])) fun j ds => (if j = 0 then pullD (α := Int) (some (.tup ds)) (fun d => ((D.vi (D.at d 0)))) (fun l41 => .tup [iD l41]) fun l41 => ((if (k16 : Int) ≠ (ka : Int) then some (.one (.bool false)) else (if (k25 : Int) ≠ IntKind.i64.wrap ((ka : Int) + (1 : Int)) then some (.one (.bool false)) else (if (k34 : Int) ≠ (ka : Int) then some (.one (.bool false)) else guardP ((0 : Int) ≤ (0 : Int) ∧ Int.toNat (0 : Int) < k25) (pullD (α := Int) (readD c26 (Int.toNat (0 : Int) * 1) 1 false) (fun d => ((D.vi d))) (fun v42 => iD v42) fun v42 => ((if v42 ≠ (0 : Int) then some (.one (.bool false)) else bindL (runR (law4_L24_2_S ka ca kb cb r0 r1 r2 k3 c4 k5 c6 k7 c8 r9 k10 c11 k12 c13 k14 c15 k16 c17 r18 k19 c20 k21 c22 k23 c24 k25 c26 r27 k28 c29 k30 c31 k32 c33 k34 c35 r36 v37 v38 l39 l41 v42) (.next 0 [iD l41, iD ((0 : Int))])) fun j ds => (if j = 0 then pullD (α := Int) (some (.tup ds)) (fun d => ((D.vi (D.at d 0)))) (fun l43 => .tup [iD l43]) fun l43 => (bindL (runR (law4_L30_S ka ca kb cb r0 r1 r2 k3 c4 k5 c6 k7 c8 r9 k10 c11 k12 c13 k14 c15 k16 c17 r18 k19 c20 k21 c22 k23 c24 k25 c26 r27 k28 c29 k30 c31 k32 c33 k34 c35 r36 v37 v38 l39 v42 l43) (.next 0 [iD ((0 : Int))])) fun j ds => (if j = 0 then pullD (some (.tup ds)) (fun _ => ()) (fun _ => .tup []) fun _ => (some (.one (.bool (l43 == (0 : Int))))) else if j = 1 then pullD (α := Bool) (some (.tup ds)) (fun d => ((D.vb (D.at d 0)))) (fun l44 => .tup [.one (.bool l44)]) fun l44 => (some (.one (.bool l44))) else none)) else if j = 1 then pullD (α := Bool) (some (.tup ds)) (fun d => ((D.vb (D.at d 0)))) (fun l45 => .tup [.one (.bool l45)]) fun l45 => (some (.one (.bool l45))) else none)))))))) else if j = 1 then pullD (α := Bool) (some (.tup ds)) (fun d => ((D.vb (D.at d 0)))) (fun l46 => .tup [.one (.bool l46)]) fun l46 => (some (.one (.bool l46))) else none)))))))) else none))))))))))))))))))))))))))
theorem law4_M_ok (ka : Nat) (ca : List D) (kb : Nat) (cb : List D) {r : D} (h : law4_M ka ca kb cb = some r) : Con 4 [.agg [.list ka ca, .list kb cb]] r := by
  unfold law4_M at h
  obtain ⟨r0, f1_, h2_⟩ := pullD_elim h
  replace f1_ := m_8_ok f1_
  by_cases b3_ : r0 = false
  · have h4_ := (if_pos b3_).symm.trans h2_
    obtain rfl := Option.some.inj h4_
    exact con_pc (op := true) (I := [4]) (sp := law4_sp) 3000 (bT 1 []) [.one (.bool r0)] [c_no b3_] [k_c f1_] (by kernel_rfl)
  have h4_ := (if_neg b3_).symm.trans h2_
  have b5_ : r0 = true := by first | exact b3_ | simpa using b3_
  obtain ⟨r1, f6_, h7_⟩ := pullD_elim h4_
  replace f6_ := m_9_ok f6_
  by_cases b8_ : r1 = false
  · have h9_ := (if_pos b8_).symm.trans h7_
    obtain rfl := Option.some.inj h9_
    exact con_pc (op := true) (I := [4]) (sp := law4_sp) 3000 (bF 1 (bT 5 [])) [.one (.bool r0), .one (.bool r1)] [c_nn b5_, c_no b8_, c_no b8_, c_no b8_, c_no b8_, c_T] [k_c f1_, k_c f6_] (by kernel_rfl)
  have h9_ := (if_neg b8_).symm.trans h7_
  have b10_ : r1 = true := by first | exact b8_ | simpa using b8_
  obtain ⟨r2, f11_, h12_⟩ := pullD_elim h9_
  replace f11_ := m_16_ok f11_
  by_cases b13_ : r2 ≠ (0 : Int)
  · have h14_ := (if_pos b13_).symm.trans h12_
    obtain rfl := Option.some.inj h14_
    exact con_pc (op := true) (I := [4]) (sp := law4_sp) 3000 (bF 5 (bT 1 [])) [.one (.bool r0), .one (.bool r1), iD r2] [c_nn b5_, c_nn b10_, c_nn b10_, c_nn b10_, c_nn b10_, c_b b13_] [k_c f1_, k_c f6_, k_c f11_] (by kernel_rfl)
  have h14_ := (if_neg b13_).symm.trans h12_
  have b15_ : r2 = (0 : Int) := by first | exact b13_ | simpa using b13_
  obtain ⟨⟨k3, c4, k5, c6⟩, f16_, h17_⟩ := pullD_elim h14_
  replace f16_ := m_11_ok f16_
  obtain ⟨⟨k7, c8, r9⟩, f18_, h19_⟩ := pullD_elim h17_
  replace f18_ := m_10_ok f18_
  obtain ⟨⟨k10, c11, k12, c13⟩, f20_, h21_⟩ := pullD_elim h19_
  replace f20_ := m_11_ok f20_
  obtain ⟨⟨k14, c15, k16, c17, r18⟩, f22_, h23_⟩ := pullD_elim h21_
  replace f22_ := m_12_ok f22_
  obtain ⟨⟨k19, c20, k21, c22⟩, f24_, h25_⟩ := pullD_elim h23_
  replace f24_ := m_11_ok f24_
  obtain ⟨⟨k23, c24, k25, c26, r27⟩, f26_, h27_⟩ := pullD_elim h25_
  replace f26_ := m_13_ok f26_
  obtain ⟨⟨k28, c29, k30, c31⟩, f28_, h29_⟩ := pullD_elim h27_
  replace f28_ := m_11_ok f28_
  obtain ⟨⟨k32, c33, k34, c35, r36⟩, f30_, h31_⟩ := pullD_elim h29_
  replace f30_ := m_14_ok f30_
  by_cases b32_ : r9 ≠ (0 : Int)
  · have h33_ := (if_pos b32_).symm.trans h31_
    obtain rfl := Option.some.inj h33_
    exact con_pc (op := true) (I := [4]) (sp := law4_sp) 3000 (bF 6 (bT 27 [])) [.one (.bool r0), .one (.bool r1), iD r2, .agg [.list k3 c4, .list k5 c6], .tup [.list k7 c8, iD r9], .agg [.list k10 c11, .list k12 c13], .tup [.agg [.list k14 c15, .list k16 c17], iD r18], .agg [.list k19 c20, .list k21 c22], .tup [.agg [.list k23 c24, .list k25 c26], iD r27], .agg [.list k28 c29, .list k30 c31], .tup [.agg [.list k32 c33, .list k34 c35], iD r36]] [c_nn b5_, c_nn b10_, c_nn b10_, c_nn b10_, c_nn b10_, c_bn b15_, c_b b32_, c_b b32_, c_b b32_, c_T, c_T, c_T, c_T, c_T, c_T, c_T, c_T, c_T, c_T, c_T, c_T, c_T, c_T, c_T, c_T, c_T, c_T, c_T, c_T, c_T, c_T, c_T, c_T] [k_c f1_, k_c f6_, k_c f11_, k_c f16_, k_c f18_, k_c f20_, k_c f22_, k_c f24_, k_c f26_, k_c f28_, k_c f30_] (by kernel_rfl)
  have h33_ := (if_neg b32_).symm.trans h31_
  have b34_ : r9 = (0 : Int) := by first | exact b32_ | simpa using b32_
  by_cases b35_ : r18 ≠ (0 : Int)
  · have h36_ := (if_pos b35_).symm.trans h33_
    obtain rfl := Option.some.inj h36_
    exact con_pc (op := true) (I := [4]) (sp := law4_sp) 3000 (bF 9 (bT 24 [])) [.one (.bool r0), .one (.bool r1), iD r2, .agg [.list k3 c4, .list k5 c6], .tup [.list k7 c8, iD r9], .agg [.list k10 c11, .list k12 c13], .tup [.agg [.list k14 c15, .list k16 c17], iD r18], .agg [.list k19 c20, .list k21 c22], .tup [.agg [.list k23 c24, .list k25 c26], iD r27], .agg [.list k28 c29, .list k30 c31], .tup [.agg [.list k32 c33, .list k34 c35], iD r36]] [c_nn b5_, c_nn b10_, c_nn b10_, c_nn b10_, c_nn b10_, c_bn b15_, c_bn b34_, c_bn b34_, c_bn b34_, c_b b35_, c_b b35_, c_b b35_, c_T, c_T, c_T, c_T, c_T, c_T, c_T, c_T, c_T, c_T, c_T, c_T, c_T, c_T, c_T, c_T, c_T, c_T, c_T, c_T, c_T] [k_c f1_, k_c f6_, k_c f11_, k_c f16_, k_c f18_, k_c f20_, k_c f22_, k_c f24_, k_c f26_, k_c f28_, k_c f30_] (by kernel_rfl)
  have h36_ := (if_neg b35_).symm.trans h33_
  have b37_ : r18 = (0 : Int) := by first | exact b35_ | simpa using b35_
  by_cases b38_ : r27 ≠ (0 : Int)
  · have h39_ := (if_pos b38_).symm.trans h36_
    obtain rfl := Option.some.inj h39_
    exact con_pc (op := true) (I := [4]) (sp := law4_sp) 3000 (bF 12 (bT 21 [])) [.one (.bool r0), .one (.bool r1), iD r2, .agg [.list k3 c4, .list k5 c6], .tup [.list k7 c8, iD r9], .agg [.list k10 c11, .list k12 c13], .tup [.agg [.list k14 c15, .list k16 c17], iD r18], .agg [.list k19 c20, .list k21 c22], .tup [.agg [.list k23 c24, .list k25 c26], iD r27], .agg [.list k28 c29, .list k30 c31], .tup [.agg [.list k32 c33, .list k34 c35], iD r36]] [c_nn b5_, c_nn b10_, c_nn b10_, c_nn b10_, c_nn b10_, c_bn b15_, c_bn b34_, c_bn b34_, c_bn b34_, c_bn b37_, c_bn b37_, c_bn b37_, c_b b38_, c_b b38_, c_b b38_, c_T, c_T, c_T, c_T, c_T, c_T, c_T, c_T, c_T, c_T, c_T, c_T, c_T, c_T, c_T, c_T, c_T, c_T] [k_c f1_, k_c f6_, k_c f11_, k_c f16_, k_c f18_, k_c f20_, k_c f22_, k_c f24_, k_c f26_, k_c f28_, k_c f30_] (by kernel_rfl)
  have h39_ := (if_neg b38_).symm.trans h36_
  have b40_ : r27 = (0 : Int) := by first | exact b38_ | simpa using b38_
  by_cases b41_ : r36 ≠ (0 : Int)
  · have h42_ := (if_pos b41_).symm.trans h39_
    obtain rfl := Option.some.inj h42_
    exact con_pc (op := true) (I := [4]) (sp := law4_sp) 3000 (bF 15 (bT 18 [])) [.one (.bool r0), .one (.bool r1), iD r2, .agg [.list k3 c4, .list k5 c6], .tup [.list k7 c8, iD r9], .agg [.list k10 c11, .list k12 c13], .tup [.agg [.list k14 c15, .list k16 c17], iD r18], .agg [.list k19 c20, .list k21 c22], .tup [.agg [.list k23 c24, .list k25 c26], iD r27], .agg [.list k28 c29, .list k30 c31], .tup [.agg [.list k32 c33, .list k34 c35], iD r36]] [c_nn b5_, c_nn b10_, c_nn b10_, c_nn b10_, c_nn b10_, c_bn b15_, c_bn b34_, c_bn b34_, c_bn b34_, c_bn b37_, c_bn b37_, c_bn b37_, c_bn b40_, c_bn b40_, c_bn b40_, c_b b41_, c_b b41_, c_b b41_, c_b b41_, c_b b41_, c_b b41_, c_T, c_T, c_T, c_T, c_T, c_T, c_T, c_T, c_T, c_T, c_T, c_T] [k_c f1_, k_c f6_, k_c f11_, k_c f16_, k_c f18_, k_c f20_, k_c f22_, k_c f24_, k_c f26_, k_c f28_, k_c f30_] (by kernel_rfl)
  have h42_ := (if_neg b41_).symm.trans h39_
  have b43_ : r36 = (0 : Int) := by first | exact b41_ | simpa using b41_
  by_cases b44_ : (k7 : Int) ≠ IntKind.i64.wrap ((ka : Int) + (1 : Int))
  · have h45_ := (if_pos b44_).symm.trans h42_
    obtain rfl := Option.some.inj h45_
    exact con_pc (op := true) (I := [4]) (sp := law4_sp) 3000 (bF 21 (bT 12 [])) [.one (.bool r0), .one (.bool r1), iD r2, .agg [.list k3 c4, .list k5 c6], .tup [.list k7 c8, iD r9], .agg [.list k10 c11, .list k12 c13], .tup [.agg [.list k14 c15, .list k16 c17], iD r18], .agg [.list k19 c20, .list k21 c22], .tup [.agg [.list k23 c24, .list k25 c26], iD r27], .agg [.list k28 c29, .list k30 c31], .tup [.agg [.list k32 c33, .list k34 c35], iD r36]] [c_nn b5_, c_nn b10_, c_nn b10_, c_nn b10_, c_nn b10_, c_bn b15_, c_bn b34_, c_bn b34_, c_bn b34_, c_bn b37_, c_bn b37_, c_bn b37_, c_bn b40_, c_bn b40_, c_bn b40_, c_bn b43_, c_bn b43_, c_bn b43_, c_bn b43_, c_bn b43_, c_bn b43_, c_b b44_, c_b b44_, c_b b44_, c_b b44_, c_b b44_, c_T, c_T, c_T, c_T, c_T, c_T, c_T] [k_c f1_, k_c f6_, k_c f11_, k_c f16_, k_c f18_, k_c f20_, k_c f22_, k_c f24_, k_c f26_, k_c f28_, k_c f30_] (by kernel_rfl)
  have h45_ := (if_neg b44_).symm.trans h42_
  have b46_ : (k7 : Int) = IntKind.i64.wrap ((ka : Int) + (1 : Int)) := by first | exact b44_ | simpa using b44_
  obtain ⟨f47_, h48_⟩ := guardP_elim h45_
  obtain ⟨v37, f49_, h50_⟩ := pullD_elim h48_
  replace f49_ := readD_elim f49_
  by_cases b51_ : v37 ≠ (0 : Int)
  · have h52_ := (if_pos b51_).symm.trans h50_
    obtain rfl := Option.some.inj h52_
    exact con_pc (op := true) (I := [4]) (sp := law4_sp) 3000 (bF 26 (bT 7 [])) [.one (.bool r0), .one (.bool r1), iD r2, .agg [.list k3 c4, .list k5 c6], .tup [.list k7 c8, iD r9], .agg [.list k10 c11, .list k12 c13], .tup [.agg [.list k14 c15, .list k16 c17], iD r18], .agg [.list k19 c20, .list k21 c22], .tup [.agg [.list k23 c24, .list k25 c26], iD r27], .agg [.list k28 c29, .list k30 c31], .tup [.agg [.list k32 c33, .list k34 c35], iD r36], iD v37] [c_nn b5_, c_nn b10_, c_nn b10_, c_nn b10_, c_nn b10_, c_bn b15_, c_bn b34_, c_bn b34_, c_bn b34_, c_bn b37_, c_bn b37_, c_bn b37_, c_bn b40_, c_bn b40_, c_bn b40_, c_bn b43_, c_bn b43_, c_bn b43_, c_bn b43_, c_bn b43_, c_bn b43_, c_bn b46_, c_bn b46_, c_f f47_, c_bn b46_, c_f f49_, c_bn b46_, c_bn b46_, c_b b51_, c_b b51_, c_b b51_, c_b b51_, c_b b51_, c_b b51_, c_T] [k_c f1_, k_c f6_, k_c f11_, k_c f16_, k_c f18_, k_c f20_, k_c f22_, k_c f24_, k_c f26_, k_c f28_, k_c f30_] (by kernel_rfl)
  have h52_ := (if_neg b51_).symm.trans h50_
  have b53_ : v37 = (0 : Int) := by first | exact b51_ | simpa using b51_
  obtain ⟨f54_, h55_⟩ := guardP_elim h52_
  obtain ⟨v38, f56_, h57_⟩ := pullD_elim h55_
  replace f56_ := readD_elim f56_
  by_cases b58_ : v38 ≠ (0 : Int)
  · have h59_ := (if_pos b58_).symm.trans h57_
    obtain rfl := Option.some.inj h59_
    exact con_pc (op := true) (I := [4]) (sp := law4_sp) 3000 (bF 32 (bT 1 [])) [.one (.bool r0), .one (.bool r1), iD r2, .agg [.list k3 c4, .list k5 c6], .tup [.list k7 c8, iD r9], .agg [.list k10 c11, .list k12 c13], .tup [.agg [.list k14 c15, .list k16 c17], iD r18], .agg [.list k19 c20, .list k21 c22], .tup [.agg [.list k23 c24, .list k25 c26], iD r27], .agg [.list k28 c29, .list k30 c31], .tup [.agg [.list k32 c33, .list k34 c35], iD r36], iD v37, iD v38] [c_nn b5_, c_nn b10_, c_nn b10_, c_nn b10_, c_nn b10_, c_bn b15_, c_bn b34_, c_bn b34_, c_bn b34_, c_bn b37_, c_bn b37_, c_bn b37_, c_bn b40_, c_bn b40_, c_bn b40_, c_bn b43_, c_bn b43_, c_bn b43_, c_bn b43_, c_bn b43_, c_bn b43_, c_bn b46_, c_bn b46_, c_f f47_, c_bn b46_, c_f f49_, c_bn b46_, c_bn b46_, c_bn b53_, c_bn b53_, c_bn b53_, c_f f54_, c_bn b53_, c_f f56_, c_bn b53_, c_bn b53_, c_b b58_] [k_c f1_, k_c f6_, k_c f11_, k_c f16_, k_c f18_, k_c f20_, k_c f22_, k_c f24_, k_c f26_, k_c f28_, k_c f30_] (by kernel_rfl)
  have h59_ := (if_neg b58_).symm.trans h57_
  have b60_ : v38 = (0 : Int) := by first | exact b58_ | simpa using b58_
  obtain ⟨j, ds, e61_, h62_⟩ := bindL_elim h59_
  by_cases j63_ : j = 0
  · have h66_ := (if_pos j63_).symm.trans h62_
    clear h62_
    subst j63_
    obtain ⟨l39, e64_, h67_⟩ := pullD_elim h66_
    clear h66_
    obtain rfl := tup_inj e64_
    have k65_ := law4_L14_in0 ka ca kb cb r0 r1 r2 k3 c4 k5 c6 k7 c8 r9 k10 c11 k12 c13 k14 c15 k16 c17 r18 k19 c20 k21 c22 k23 c24 k25 c26 r27 k28 c29 k30 c31 k32 c33 k34 c35 r36 v37 v38 e61_
    by_cases b68_ : (k14 : Int) ≠ (ka : Int)
    · have h69_ := (if_pos b68_).symm.trans h67_
      obtain rfl := Option.some.inj h69_
      exact con_pc (op := true) (I := [4]) (sp := law4_sp) 3000 (bF 33 (bT 24 [])) [.one (.bool r0), .one (.bool r1), iD r2, .agg [.list k3 c4, .list k5 c6], .tup [.list k7 c8, iD r9], .agg [.list k10 c11, .list k12 c13], .tup [.agg [.list k14 c15, .list k16 c17], iD r18], .agg [.list k19 c20, .list k21 c22], .tup [.agg [.list k23 c24, .list k25 c26], iD r27], .agg [.list k28 c29, .list k30 c31], .tup [.agg [.list k32 c33, .list k34 c35], iD r36], iD v37, iD v38, .tup [iD (Int.ofNat 0), .one (.bool l39)]] [c_nn b5_, c_nn b10_, c_nn b10_, c_nn b10_, c_nn b10_, c_bn b15_, c_bn b34_, c_bn b34_, c_bn b34_, c_bn b37_, c_bn b37_, c_bn b37_, c_bn b40_, c_bn b40_, c_bn b40_, c_bn b43_, c_bn b43_, c_bn b43_, c_bn b43_, c_bn b43_, c_bn b43_, c_bn b46_, c_bn b46_, c_f f47_, c_bn b46_, c_f f49_, c_bn b46_, c_bn b46_, c_bn b53_, c_bn b53_, c_bn b53_, c_f f54_, c_bn b53_, c_f f56_, c_bn b53_, c_bn b53_, c_bn b60_, c_T, c_b b68_, c_b b68_, c_b b68_, c_b b68_, c_b b68_, c_b b68_, c_b b68_, c_b b68_, c_T, c_T, c_T, c_T, c_T, c_T, c_T, c_T, c_T, c_T, c_T, c_T, c_T, c_T, c_T] [k_c f1_, k_c f6_, k_c f11_, k_c f16_, k_c f18_, k_c f20_, k_c f22_, k_c f24_, k_c f26_, k_c f28_, k_c f30_, k_l k65_ (bT 24 []) [.tup [iD (Int.ofNat 0), .one (.bool l39)]] []] (by kernel_rfl)
    have h69_ := (if_neg b68_).symm.trans h67_
    have b70_ : (k14 : Int) = (ka : Int) := by first | exact b68_ | simpa using b68_
    by_cases b71_ : (k23 : Int) ≠ IntKind.i64.wrap ((ka : Int) + (1 : Int))
    · have h72_ := (if_pos b71_).symm.trans h69_
      obtain rfl := Option.some.inj h72_
      exact con_pc (op := true) (I := [4]) (sp := law4_sp) 3000 (bF 33 (bT 1 (bF 8 (bT 15 [])))) [.one (.bool r0), .one (.bool r1), iD r2, .agg [.list k3 c4, .list k5 c6], .tup [.list k7 c8, iD r9], .agg [.list k10 c11, .list k12 c13], .tup [.agg [.list k14 c15, .list k16 c17], iD r18], .agg [.list k19 c20, .list k21 c22], .tup [.agg [.list k23 c24, .list k25 c26], iD r27], .agg [.list k28 c29, .list k30 c31], .tup [.agg [.list k32 c33, .list k34 c35], iD r36], iD v37, iD v38, .tup [iD (Int.ofNat 0), .one (.bool l39)]] [c_nn b5_, c_nn b10_, c_nn b10_, c_nn b10_, c_nn b10_, c_bn b15_, c_bn b34_, c_bn b34_, c_bn b34_, c_bn b37_, c_bn b37_, c_bn b37_, c_bn b40_, c_bn b40_, c_bn b40_, c_bn b43_, c_bn b43_, c_bn b43_, c_bn b43_, c_bn b43_, c_bn b43_, c_bn b46_, c_bn b46_, c_f f47_, c_bn b46_, c_f f49_, c_bn b46_, c_bn b46_, c_bn b53_, c_bn b53_, c_bn b53_, c_f f54_, c_bn b53_, c_f f56_, c_bn b53_, c_bn b53_, c_bn b60_, c_T, c_bn b70_, c_bn b70_, c_bn b70_, c_bn b70_, c_bn b70_, c_bn b70_, c_bn b70_, c_bn b70_, c_b b71_, c_b b71_, c_b b71_, c_b b71_, c_b b71_, c_b b71_, c_b b71_, c_T, c_T, c_T, c_T, c_T, c_T, c_T, c_T] [k_c f1_, k_c f6_, k_c f11_, k_c f16_, k_c f18_, k_c f20_, k_c f22_, k_c f24_, k_c f26_, k_c f28_, k_c f30_, k_l k65_ (bT 1 (bF 8 (bT 15 []))) [.tup [iD (Int.ofNat 0), .one (.bool l39)]] []] (by kernel_rfl)
    have h72_ := (if_neg b71_).symm.trans h69_
    have b73_ : (k23 : Int) = IntKind.i64.wrap ((ka : Int) + (1 : Int)) := by first | exact b71_ | simpa using b71_
    by_cases b74_ : (k32 : Int) ≠ (ka : Int)
    · have h75_ := (if_pos b74_).symm.trans h72_
      obtain rfl := Option.some.inj h75_
      exact con_pc (op := true) (I := [4]) (sp := law4_sp) 3000 (bF 33 (bT 1 (bF 15 (bT 8 [])))) [.one (.bool r0), .one (.bool r1), iD r2, .agg [.list k3 c4, .list k5 c6], .tup [.list k7 c8, iD r9], .agg [.list k10 c11, .list k12 c13], .tup [.agg [.list k14 c15, .list k16 c17], iD r18], .agg [.list k19 c20, .list k21 c22], .tup [.agg [.list k23 c24, .list k25 c26], iD r27], .agg [.list k28 c29, .list k30 c31], .tup [.agg [.list k32 c33, .list k34 c35], iD r36], iD v37, iD v38, .tup [iD (Int.ofNat 0), .one (.bool l39)]] [c_nn b5_, c_nn b10_, c_nn b10_, c_nn b10_, c_nn b10_, c_bn b15_, c_bn b34_, c_bn b34_, c_bn b34_, c_bn b37_, c_bn b37_, c_bn b37_, c_bn b40_, c_bn b40_, c_bn b40_, c_bn b43_, c_bn b43_, c_bn b43_, c_bn b43_, c_bn b43_, c_bn b43_, c_bn b46_, c_bn b46_, c_f f47_, c_bn b46_, c_f f49_, c_bn b46_, c_bn b46_, c_bn b53_, c_bn b53_, c_bn b53_, c_f f54_, c_bn b53_, c_f f56_, c_bn b53_, c_bn b53_, c_bn b60_, c_T, c_bn b70_, c_bn b70_, c_bn b70_, c_bn b70_, c_bn b70_, c_bn b70_, c_bn b70_, c_bn b70_, c_bn b73_, c_bn b73_, c_bn b73_, c_bn b73_, c_bn b73_, c_bn b73_, c_bn b73_, c_b b74_, c_b b74_, c_b b74_, c_b b74_, c_b b74_, c_b b74_, c_b b74_, c_T] [k_c f1_, k_c f6_, k_c f11_, k_c f16_, k_c f18_, k_c f20_, k_c f22_, k_c f24_, k_c f26_, k_c f28_, k_c f30_, k_l k65_ (bT 1 (bF 15 (bT 8 []))) [.tup [iD (Int.ofNat 0), .one (.bool l39)]] []] (by kernel_rfl)
    have h75_ := (if_neg b74_).symm.trans h72_
    have b76_ : (k32 : Int) = (ka : Int) := by first | exact b74_ | simpa using b74_
    obtain ⟨f77_, h78_⟩ := guardP_elim h75_
    obtain ⟨v40, f79_, h80_⟩ := pullD_elim h78_
    replace f79_ := readD_elim f79_
    by_cases b81_ : v40 ≠ (0 : Int)
    · have h82_ := (if_pos b81_).symm.trans h80_
      obtain rfl := Option.some.inj h82_
      exact con_pc (op := true) (I := [4]) (sp := law4_sp) 3000 (bF 33 (bT 1 (bF 22 (bT 1 [])))) [.one (.bool r0), .one (.bool r1), iD r2, .agg [.list k3 c4, .list k5 c6], .tup [.list k7 c8, iD r9], .agg [.list k10 c11, .list k12 c13], .tup [.agg [.list k14 c15, .list k16 c17], iD r18], .agg [.list k19 c20, .list k21 c22], .tup [.agg [.list k23 c24, .list k25 c26], iD r27], .agg [.list k28 c29, .list k30 c31], .tup [.agg [.list k32 c33, .list k34 c35], iD r36], iD v37, iD v38, .tup [iD (Int.ofNat 0), .one (.bool l39)], iD v40] [c_nn b5_, c_nn b10_, c_nn b10_, c_nn b10_, c_nn b10_, c_bn b15_, c_bn b34_, c_bn b34_, c_bn b34_, c_bn b37_, c_bn b37_, c_bn b37_, c_bn b40_, c_bn b40_, c_bn b40_, c_bn b43_, c_bn b43_, c_bn b43_, c_bn b43_, c_bn b43_, c_bn b43_, c_bn b46_, c_bn b46_, c_f f47_, c_bn b46_, c_f f49_, c_bn b46_, c_bn b46_, c_bn b53_, c_bn b53_, c_bn b53_, c_f f54_, c_bn b53_, c_f f56_, c_bn b53_, c_bn b53_, c_bn b60_, c_T, c_bn b70_, c_bn b70_, c_bn b70_, c_bn b70_, c_bn b70_, c_bn b70_, c_bn b70_, c_bn b70_, c_bn b73_, c_bn b73_, c_bn b73_, c_bn b73_, c_bn b73_, c_bn b73_, c_bn b73_, c_bn b76_, c_bn b76_, c_bn b76_, c_bn b76_, c_f f77_, c_bn b76_, c_f f79_, c_bn b76_, c_bn b76_, c_b b81_] [k_c f1_, k_c f6_, k_c f11_, k_c f16_, k_c f18_, k_c f20_, k_c f22_, k_c f24_, k_c f26_, k_c f28_, k_c f30_, k_l k65_ (bT 1 (bF 22 (bT 1 []))) [.tup [iD (Int.ofNat 0), .one (.bool l39)], iD v40] [iD v40]] (by kernel_rfl)
    have h82_ := (if_neg b81_).symm.trans h80_
    have b83_ : v40 = (0 : Int) := by first | exact b81_ | simpa using b81_
    obtain ⟨j, ds, e84_, h85_⟩ := bindL_elim h82_
    by_cases j86_ : j = 0
    · have h89_ := (if_pos j86_).symm.trans h85_
      clear h85_
      subst j86_
      obtain ⟨l41, e87_, h90_⟩ := pullD_elim h89_
      clear h89_
      obtain rfl := tup_inj e87_
      have k88_ := law4_L24_in0 ka ca kb cb r0 r1 r2 k3 c4 k5 c6 k7 c8 r9 k10 c11 k12 c13 k14 c15 k16 c17 r18 k19 c20 k21 c22 k23 c24 k25 c26 r27 k28 c29 k30 c31 k32 c33 k34 c35 r36 v37 v38 l39 v40 e84_
      by_cases b91_ : (k16 : Int) ≠ (ka : Int)
      · have h92_ := (if_pos b91_).symm.trans h90_
        obtain rfl := Option.some.inj h92_
        exact con_pc (op := true) (I := [4]) (sp := law4_sp) 3000 (bF 33 (bT 1 (bF 23 (bT 24 [])))) [.one (.bool r0), .one (.bool r1), iD r2, .agg [.list k3 c4, .list k5 c6], .tup [.list k7 c8, iD r9], .agg [.list k10 c11, .list k12 c13], .tup [.agg [.list k14 c15, .list k16 c17], iD r18], .agg [.list k19 c20, .list k21 c22], .tup [.agg [.list k23 c24, .list k25 c26], iD r27], .agg [.list k28 c29, .list k30 c31], .tup [.agg [.list k32 c33, .list k34 c35], iD r36], iD v37, iD v38, .tup [iD (Int.ofNat 0), .one (.bool l39)], iD v40, .tup [iD (Int.ofNat 0), iD l41]] [c_nn b5_, c_nn b10_, c_nn b10_, c_nn b10_, c_nn b10_, c_bn b15_, c_bn b34_, c_bn b34_, c_bn b34_, c_bn b37_, c_bn b37_, c_bn b37_, c_bn b40_, c_bn b40_, c_bn b40_, c_bn b43_, c_bn b43_, c_bn b43_, c_bn b43_, c_bn b43_, c_bn b43_, c_bn b46_, c_bn b46_, c_f f47_, c_bn b46_, c_f f49_, c_bn b46_, c_bn b46_, c_bn b53_, c_bn b53_, c_bn b53_, c_f f54_, c_bn b53_, c_f f56_, c_bn b53_, c_bn b53_, c_bn b60_, c_T, c_bn b70_, c_bn b70_, c_bn b70_, c_bn b70_, c_bn b70_, c_bn b70_, c_bn b70_, c_bn b70_, c_bn b73_, c_bn b73_, c_bn b73_, c_bn b73_, c_bn b73_, c_bn b73_, c_bn b73_, c_bn b76_, c_bn b76_, c_bn b76_, c_bn b76_, c_f f77_, c_bn b76_, c_f f79_, c_bn b76_, c_bn b76_, c_bn b83_, c_T, c_b b91_, c_b b91_, c_b b91_, c_b b91_, c_b b91_, c_b b91_, c_b b91_, c_b b91_, c_T, c_T, c_T, c_T, c_T, c_T, c_T, c_T, c_T, c_T, c_T, c_T, c_T, c_T, c_T] [k_c f1_, k_c f6_, k_c f11_, k_c f16_, k_c f18_, k_c f20_, k_c f22_, k_c f24_, k_c f26_, k_c f28_, k_c f30_, k_l k65_ (bT 1 (bF 23 (bT 24 []))) [.tup [iD (Int.ofNat 0), .one (.bool l39)], iD v40, .tup [iD (Int.ofNat 0), iD l41]] [iD v40, .tup [iD (Int.ofNat 0), iD l41]], k_l k88_ (bT 24 []) [.tup [iD (Int.ofNat 0), iD l41]] []] (by kernel_rfl)
      have h92_ := (if_neg b91_).symm.trans h90_
      have b93_ : (k16 : Int) = (ka : Int) := by first | exact b91_ | simpa using b91_
      by_cases b94_ : (k25 : Int) ≠ IntKind.i64.wrap ((ka : Int) + (1 : Int))
      · have h95_ := (if_pos b94_).symm.trans h92_
        obtain rfl := Option.some.inj h95_
        exact con_pc (op := true) (I := [4]) (sp := law4_sp) 3000 (bF 33 (bT 1 (bF 23 (bT 1 (bF 8 (bT 15 [])))))) [.one (.bool r0), .one (.bool r1), iD r2, .agg [.list k3 c4, .list k5 c6], .tup [.list k7 c8, iD r9], .agg [.list k10 c11, .list k12 c13], .tup [.agg [.list k14 c15, .list k16 c17], iD r18], .agg [.list k19 c20, .list k21 c22], .tup [.agg [.list k23 c24, .list k25 c26], iD r27], .agg [.list k28 c29, .list k30 c31], .tup [.agg [.list k32 c33, .list k34 c35], iD r36], iD v37, iD v38, .tup [iD (Int.ofNat 0), .one (.bool l39)], iD v40, .tup [iD (Int.ofNat 0), iD l41]] [c_nn b5_, c_nn b10_, c_nn b10_, c_nn b10_, c_nn b10_, c_bn b15_, c_bn b34_, c_bn b34_, c_bn b34_, c_bn b37_, c_bn b37_, c_bn b37_, c_bn b40_, c_bn b40_, c_bn b40_, c_bn b43_, c_bn b43_, c_bn b43_, c_bn b43_, c_bn b43_, c_bn b43_, c_bn b46_, c_bn b46_, c_f f47_, c_bn b46_, c_f f49_, c_bn b46_, c_bn b46_, c_bn b53_, c_bn b53_, c_bn b53_, c_f f54_, c_bn b53_, c_f f56_, c_bn b53_, c_bn b53_, c_bn b60_, c_T, c_bn b70_, c_bn b70_, c_bn b70_, c_bn b70_, c_bn b70_, c_bn b70_, c_bn b70_, c_bn b70_, c_bn b73_, c_bn b73_, c_bn b73_, c_bn b73_, c_bn b73_, c_bn b73_, c_bn b73_, c_bn b76_, c_bn b76_, c_bn b76_, c_bn b76_, c_f f77_, c_bn b76_, c_f f79_, c_bn b76_, c_bn b76_, c_bn b83_, c_T, c_bn b93_, c_bn b93_, c_bn b93_, c_bn b93_, c_bn b93_, c_bn b93_, c_bn b93_, c_bn b93_, c_b b94_, c_b b94_, c_b b94_, c_b b94_, c_b b94_, c_b b94_, c_b b94_, c_T, c_T, c_T, c_T, c_T, c_T, c_T, c_T] [k_c f1_, k_c f6_, k_c f11_, k_c f16_, k_c f18_, k_c f20_, k_c f22_, k_c f24_, k_c f26_, k_c f28_, k_c f30_, k_l k65_ (bT 1 (bF 23 (bT 1 (bF 8 (bT 15 []))))) [.tup [iD (Int.ofNat 0), .one (.bool l39)], iD v40, .tup [iD (Int.ofNat 0), iD l41]] [iD v40, .tup [iD (Int.ofNat 0), iD l41]], k_l k88_ (bT 1 (bF 8 (bT 15 []))) [.tup [iD (Int.ofNat 0), iD l41]] []] (by kernel_rfl)
      have h95_ := (if_neg b94_).symm.trans h92_
      have b96_ : (k25 : Int) = IntKind.i64.wrap ((ka : Int) + (1 : Int)) := by first | exact b94_ | simpa using b94_
      by_cases b97_ : (k34 : Int) ≠ (ka : Int)
      · have h98_ := (if_pos b97_).symm.trans h95_
        obtain rfl := Option.some.inj h98_
        exact con_pc (op := true) (I := [4]) (sp := law4_sp) 3000 (bF 33 (bT 1 (bF 23 (bT 1 (bF 15 (bT 8 [])))))) [.one (.bool r0), .one (.bool r1), iD r2, .agg [.list k3 c4, .list k5 c6], .tup [.list k7 c8, iD r9], .agg [.list k10 c11, .list k12 c13], .tup [.agg [.list k14 c15, .list k16 c17], iD r18], .agg [.list k19 c20, .list k21 c22], .tup [.agg [.list k23 c24, .list k25 c26], iD r27], .agg [.list k28 c29, .list k30 c31], .tup [.agg [.list k32 c33, .list k34 c35], iD r36], iD v37, iD v38, .tup [iD (Int.ofNat 0), .one (.bool l39)], iD v40, .tup [iD (Int.ofNat 0), iD l41]] [c_nn b5_, c_nn b10_, c_nn b10_, c_nn b10_, c_nn b10_, c_bn b15_, c_bn b34_, c_bn b34_, c_bn b34_, c_bn b37_, c_bn b37_, c_bn b37_, c_bn b40_, c_bn b40_, c_bn b40_, c_bn b43_, c_bn b43_, c_bn b43_, c_bn b43_, c_bn b43_, c_bn b43_, c_bn b46_, c_bn b46_, c_f f47_, c_bn b46_, c_f f49_, c_bn b46_, c_bn b46_, c_bn b53_, c_bn b53_, c_bn b53_, c_f f54_, c_bn b53_, c_f f56_, c_bn b53_, c_bn b53_, c_bn b60_, c_T, c_bn b70_, c_bn b70_, c_bn b70_, c_bn b70_, c_bn b70_, c_bn b70_, c_bn b70_, c_bn b70_, c_bn b73_, c_bn b73_, c_bn b73_, c_bn b73_, c_bn b73_, c_bn b73_, c_bn b73_, c_bn b76_, c_bn b76_, c_bn b76_, c_bn b76_, c_f f77_, c_bn b76_, c_f f79_, c_bn b76_, c_bn b76_, c_bn b83_, c_T, c_bn b93_, c_bn b93_, c_bn b93_, c_bn b93_, c_bn b93_, c_bn b93_, c_bn b93_, c_bn b93_, c_bn b96_, c_bn b96_, c_bn b96_, c_bn b96_, c_bn b96_, c_bn b96_, c_bn b96_, c_b b97_, c_b b97_, c_b b97_, c_b b97_, c_b b97_, c_b b97_, c_b b97_, c_T] [k_c f1_, k_c f6_, k_c f11_, k_c f16_, k_c f18_, k_c f20_, k_c f22_, k_c f24_, k_c f26_, k_c f28_, k_c f30_, k_l k65_ (bT 1 (bF 23 (bT 1 (bF 15 (bT 8 []))))) [.tup [iD (Int.ofNat 0), .one (.bool l39)], iD v40, .tup [iD (Int.ofNat 0), iD l41]] [iD v40, .tup [iD (Int.ofNat 0), iD l41]], k_l k88_ (bT 1 (bF 15 (bT 8 []))) [.tup [iD (Int.ofNat 0), iD l41]] []] (by kernel_rfl)
      have h98_ := (if_neg b97_).symm.trans h95_
      have b99_ : (k34 : Int) = (ka : Int) := by first | exact b97_ | simpa using b97_
      obtain ⟨f100_, h101_⟩ := guardP_elim h98_
      obtain ⟨v42, f102_, h103_⟩ := pullD_elim h101_
      replace f102_ := readD_elim f102_
      by_cases b104_ : v42 ≠ (0 : Int)
      · have h105_ := (if_pos b104_).symm.trans h103_
        obtain rfl := Option.some.inj h105_
        exact con_pc (op := true) (I := [4]) (sp := law4_sp) 3000 (bF 33 (bT 1 (bF 23 (bT 1 (bF 22 (bT 1 [])))))) [.one (.bool r0), .one (.bool r1), iD r2, .agg [.list k3 c4, .list k5 c6], .tup [.list k7 c8, iD r9], .agg [.list k10 c11, .list k12 c13], .tup [.agg [.list k14 c15, .list k16 c17], iD r18], .agg [.list k19 c20, .list k21 c22], .tup [.agg [.list k23 c24, .list k25 c26], iD r27], .agg [.list k28 c29, .list k30 c31], .tup [.agg [.list k32 c33, .list k34 c35], iD r36], iD v37, iD v38, .tup [iD (Int.ofNat 0), .one (.bool l39)], iD v40, .tup [iD (Int.ofNat 0), iD l41], iD v42] [c_nn b5_, c_nn b10_, c_nn b10_, c_nn b10_, c_nn b10_, c_bn b15_, c_bn b34_, c_bn b34_, c_bn b34_, c_bn b37_, c_bn b37_, c_bn b37_, c_bn b40_, c_bn b40_, c_bn b40_, c_bn b43_, c_bn b43_, c_bn b43_, c_bn b43_, c_bn b43_, c_bn b43_, c_bn b46_, c_bn b46_, c_f f47_, c_bn b46_, c_f f49_, c_bn b46_, c_bn b46_, c_bn b53_, c_bn b53_, c_bn b53_, c_f f54_, c_bn b53_, c_f f56_, c_bn b53_, c_bn b53_, c_bn b60_, c_T, c_bn b70_, c_bn b70_, c_bn b70_, c_bn b70_, c_bn b70_, c_bn b70_, c_bn b70_, c_bn b70_, c_bn b73_, c_bn b73_, c_bn b73_, c_bn b73_, c_bn b73_, c_bn b73_, c_bn b73_, c_bn b76_, c_bn b76_, c_bn b76_, c_bn b76_, c_f f77_, c_bn b76_, c_f f79_, c_bn b76_, c_bn b76_, c_bn b83_, c_T, c_bn b93_, c_bn b93_, c_bn b93_, c_bn b93_, c_bn b93_, c_bn b93_, c_bn b93_, c_bn b93_, c_bn b96_, c_bn b96_, c_bn b96_, c_bn b96_, c_bn b96_, c_bn b96_, c_bn b96_, c_bn b99_, c_bn b99_, c_bn b99_, c_bn b99_, c_f f100_, c_bn b99_, c_f f102_, c_bn b99_, c_bn b99_, c_b b104_] [k_c f1_, k_c f6_, k_c f11_, k_c f16_, k_c f18_, k_c f20_, k_c f22_, k_c f24_, k_c f26_, k_c f28_, k_c f30_, k_l k65_ (bT 1 (bF 23 (bT 1 (bF 22 (bT 1 []))))) [.tup [iD (Int.ofNat 0), .one (.bool l39)], iD v40, .tup [iD (Int.ofNat 0), iD l41], iD v42] [iD v40, .tup [iD (Int.ofNat 0), iD l41], iD v42], k_l k88_ (bT 1 (bF 22 (bT 1 []))) [.tup [iD (Int.ofNat 0), iD l41], iD v42] [iD v42]] (by kernel_rfl)
      have h105_ := (if_neg b104_).symm.trans h103_
      have b106_ : v42 = (0 : Int) := by first | exact b104_ | simpa using b104_
      obtain ⟨j, ds, e107_, h108_⟩ := bindL_elim h105_
      by_cases j109_ : j = 0
      · have h112_ := (if_pos j109_).symm.trans h108_
        clear h108_
        subst j109_
        obtain ⟨l43, e110_, h113_⟩ := pullD_elim h112_
        clear h112_
        obtain rfl := tup_inj e110_
        have k111_ := law4_L24_2_in0 ka ca kb cb r0 r1 r2 k3 c4 k5 c6 k7 c8 r9 k10 c11 k12 c13 k14 c15 k16 c17 r18 k19 c20 k21 c22 k23 c24 k25 c26 r27 k28 c29 k30 c31 k32 c33 k34 c35 r36 v37 v38 l39 l41 v42 e107_
        obtain ⟨j, ds, e114_, h115_⟩ := bindL_elim h113_
        by_cases j116_ : j = 0
        · have h119_ := (if_pos j116_).symm.trans h115_
          clear h115_
          subst j116_
          obtain ⟨⟨⟩, e117_, h120_⟩ := pullD_elim h119_
          clear h119_
          obtain rfl := tup_inj e117_
          have k118_ := law4_L30_in0 ka ca kb cb r0 r1 r2 k3 c4 k5 c6 k7 c8 r9 k10 c11 k12 c13 k14 c15 k16 c17 r18 k19 c20 k21 c22 k23 c24 k25 c26 r27 k28 c29 k30 c31 k32 c33 k34 c35 r36 v37 v38 l39 v42 l43 e114_
          obtain rfl := Option.some.inj h120_
          exact con_pc (op := true) (I := [4]) (sp := law4_sp) 3000 (bF 33 (bT 1 (bF 23 (bT 1 (bF 24 []))))) [.one (.bool r0), .one (.bool r1), iD r2, .agg [.list k3 c4, .list k5 c6], .tup [.list k7 c8, iD r9], .agg [.list k10 c11, .list k12 c13], .tup [.agg [.list k14 c15, .list k16 c17], iD r18], .agg [.list k19 c20, .list k21 c22], .tup [.agg [.list k23 c24, .list k25 c26], iD r27], .agg [.list k28 c29, .list k30 c31], .tup [.agg [.list k32 c33, .list k34 c35], iD r36], iD v37, iD v38, .tup [iD (Int.ofNat 0), .one (.bool l39)], iD v40, .tup [iD (Int.ofNat 0), iD l41], iD v42, .tup [iD (Int.ofNat 0), iD l43], .tup [iD (Int.ofNat 0)]] [c_nn b5_, c_nn b10_, c_nn b10_, c_nn b10_, c_nn b10_, c_bn b15_, c_bn b34_, c_bn b34_, c_bn b34_, c_bn b37_, c_bn b37_, c_bn b37_, c_bn b40_, c_bn b40_, c_bn b40_, c_bn b43_, c_bn b43_, c_bn b43_, c_bn b43_, c_bn b43_, c_bn b43_, c_bn b46_, c_bn b46_, c_f f47_, c_bn b46_, c_f f49_, c_bn b46_, c_bn b46_, c_bn b53_, c_bn b53_, c_bn b53_, c_f f54_, c_bn b53_, c_f f56_, c_bn b53_, c_bn b53_, c_bn b60_, c_T, c_bn b70_, c_bn b70_, c_bn b70_, c_bn b70_, c_bn b70_, c_bn b70_, c_bn b70_, c_bn b70_, c_bn b73_, c_bn b73_, c_bn b73_, c_bn b73_, c_bn b73_, c_bn b73_, c_bn b73_, c_bn b76_, c_bn b76_, c_bn b76_, c_bn b76_, c_f f77_, c_bn b76_, c_f f79_, c_bn b76_, c_bn b76_, c_bn b83_, c_T, c_bn b93_, c_bn b93_, c_bn b93_, c_bn b93_, c_bn b93_, c_bn b93_, c_bn b93_, c_bn b93_, c_bn b96_, c_bn b96_, c_bn b96_, c_bn b96_, c_bn b96_, c_bn b96_, c_bn b96_, c_bn b99_, c_bn b99_, c_bn b99_, c_bn b99_, c_f f100_, c_bn b99_, c_f f102_, c_bn b99_, c_bn b99_, c_bn b106_, c_F] [k_c f1_, k_c f6_, k_c f11_, k_c f16_, k_c f18_, k_c f20_, k_c f22_, k_c f24_, k_c f26_, k_c f28_, k_c f30_, k_l k65_ (bT 1 (bF 23 (bT 1 (bF 24 [])))) [.tup [iD (Int.ofNat 0), .one (.bool l39)], iD v40, .tup [iD (Int.ofNat 0), iD l41], iD v42, .tup [iD (Int.ofNat 0), iD l43], .tup [iD (Int.ofNat 0)]] [iD v40, .tup [iD (Int.ofNat 0), iD l41], iD v42, .tup [iD (Int.ofNat 0), iD l43], .tup [iD (Int.ofNat 0)]], k_l k88_ (bT 1 (bF 24 [])) [.tup [iD (Int.ofNat 0), iD l41], iD v42, .tup [iD (Int.ofNat 0), iD l43], .tup [iD (Int.ofNat 0)]] [iD v42, .tup [iD (Int.ofNat 0), iD l43], .tup [iD (Int.ofNat 0)]], k_l k111_ (bF 1 []) [.tup [iD (Int.ofNat 0), iD l43], .tup [iD (Int.ofNat 0)]] [.tup [iD (Int.ofNat 0)]], k_l k118_ [] [.tup [iD (Int.ofNat 0)]] []] (by kernel_rfl)
        have h121_ := (if_neg j116_).symm.trans h115_
        clear h115_
        by_cases j122_ : j = 1
        · have h125_ := (if_pos j122_).symm.trans h121_
          clear h121_
          subst j122_
          obtain ⟨l44, e123_, h126_⟩ := pullD_elim h125_
          clear h125_
          obtain rfl := tup_inj e123_
          have k124_ := law4_L30_in1 ka ca kb cb r0 r1 r2 k3 c4 k5 c6 k7 c8 r9 k10 c11 k12 c13 k14 c15 k16 c17 r18 k19 c20 k21 c22 k23 c24 k25 c26 r27 k28 c29 k30 c31 k32 c33 k34 c35 r36 v37 v38 l39 v42 l43 e114_
          obtain rfl := Option.some.inj h126_
          exact con_pc (op := true) (I := [4]) (sp := law4_sp) 3000 (bF 33 (bT 1 (bF 23 (bT 1 (bF 24 []))))) [.one (.bool r0), .one (.bool r1), iD r2, .agg [.list k3 c4, .list k5 c6], .tup [.list k7 c8, iD r9], .agg [.list k10 c11, .list k12 c13], .tup [.agg [.list k14 c15, .list k16 c17], iD r18], .agg [.list k19 c20, .list k21 c22], .tup [.agg [.list k23 c24, .list k25 c26], iD r27], .agg [.list k28 c29, .list k30 c31], .tup [.agg [.list k32 c33, .list k34 c35], iD r36], iD v37, iD v38, .tup [iD (Int.ofNat 0), .one (.bool l39)], iD v40, .tup [iD (Int.ofNat 0), iD l41], iD v42, .tup [iD (Int.ofNat 0), iD l43], .tup [iD (Int.ofNat 1), .one (.bool l44)]] [c_nn b5_, c_nn b10_, c_nn b10_, c_nn b10_, c_nn b10_, c_bn b15_, c_bn b34_, c_bn b34_, c_bn b34_, c_bn b37_, c_bn b37_, c_bn b37_, c_bn b40_, c_bn b40_, c_bn b40_, c_bn b43_, c_bn b43_, c_bn b43_, c_bn b43_, c_bn b43_, c_bn b43_, c_bn b46_, c_bn b46_, c_f f47_, c_bn b46_, c_f f49_, c_bn b46_, c_bn b46_, c_bn b53_, c_bn b53_, c_bn b53_, c_f f54_, c_bn b53_, c_f f56_, c_bn b53_, c_bn b53_, c_bn b60_, c_T, c_bn b70_, c_bn b70_, c_bn b70_, c_bn b70_, c_bn b70_, c_bn b70_, c_bn b70_, c_bn b70_, c_bn b73_, c_bn b73_, c_bn b73_, c_bn b73_, c_bn b73_, c_bn b73_, c_bn b73_, c_bn b76_, c_bn b76_, c_bn b76_, c_bn b76_, c_f f77_, c_bn b76_, c_f f79_, c_bn b76_, c_bn b76_, c_bn b83_, c_T, c_bn b93_, c_bn b93_, c_bn b93_, c_bn b93_, c_bn b93_, c_bn b93_, c_bn b93_, c_bn b93_, c_bn b96_, c_bn b96_, c_bn b96_, c_bn b96_, c_bn b96_, c_bn b96_, c_bn b96_, c_bn b99_, c_bn b99_, c_bn b99_, c_bn b99_, c_f f100_, c_bn b99_, c_f f102_, c_bn b99_, c_bn b99_, c_bn b106_, c_F] [k_c f1_, k_c f6_, k_c f11_, k_c f16_, k_c f18_, k_c f20_, k_c f22_, k_c f24_, k_c f26_, k_c f28_, k_c f30_, k_l k65_ (bT 1 (bF 23 (bT 1 (bF 24 [])))) [.tup [iD (Int.ofNat 0), .one (.bool l39)], iD v40, .tup [iD (Int.ofNat 0), iD l41], iD v42, .tup [iD (Int.ofNat 0), iD l43], .tup [iD (Int.ofNat 1), .one (.bool l44)]] [iD v40, .tup [iD (Int.ofNat 0), iD l41], iD v42, .tup [iD (Int.ofNat 0), iD l43], .tup [iD (Int.ofNat 1), .one (.bool l44)]], k_l k88_ (bT 1 (bF 24 [])) [.tup [iD (Int.ofNat 0), iD l41], iD v42, .tup [iD (Int.ofNat 0), iD l43], .tup [iD (Int.ofNat 1), .one (.bool l44)]] [iD v42, .tup [iD (Int.ofNat 0), iD l43], .tup [iD (Int.ofNat 1), .one (.bool l44)]], k_l k111_ (bF 1 []) [.tup [iD (Int.ofNat 0), iD l43], .tup [iD (Int.ofNat 1), .one (.bool l44)]] [.tup [iD (Int.ofNat 1), .one (.bool l44)]], k_l k124_ [] [.tup [iD (Int.ofNat 1), .one (.bool l44)]] []] (by kernel_rfl)
        have h127_ := (if_neg j122_).symm.trans h121_
        clear h121_
        cases h127_
      have h128_ := (if_neg j109_).symm.trans h108_
      clear h108_
      by_cases j129_ : j = 1
      · have h132_ := (if_pos j129_).symm.trans h128_
        clear h128_
        subst j129_
        obtain ⟨l45, e130_, h133_⟩ := pullD_elim h132_
        clear h132_
        obtain rfl := tup_inj e130_
        have k131_ := law4_L24_2_in1 ka ca kb cb r0 r1 r2 k3 c4 k5 c6 k7 c8 r9 k10 c11 k12 c13 k14 c15 k16 c17 r18 k19 c20 k21 c22 k23 c24 k25 c26 r27 k28 c29 k30 c31 k32 c33 k34 c35 r36 v37 v38 l39 l41 v42 e107_
        obtain rfl := Option.some.inj h133_
        exact con_pc (op := true) (I := [4]) (sp := law4_sp) 3000 (bF 33 (bT 1 (bF 23 (bT 1 (bF 23 []))))) [.one (.bool r0), .one (.bool r1), iD r2, .agg [.list k3 c4, .list k5 c6], .tup [.list k7 c8, iD r9], .agg [.list k10 c11, .list k12 c13], .tup [.agg [.list k14 c15, .list k16 c17], iD r18], .agg [.list k19 c20, .list k21 c22], .tup [.agg [.list k23 c24, .list k25 c26], iD r27], .agg [.list k28 c29, .list k30 c31], .tup [.agg [.list k32 c33, .list k34 c35], iD r36], iD v37, iD v38, .tup [iD (Int.ofNat 0), .one (.bool l39)], iD v40, .tup [iD (Int.ofNat 0), iD l41], iD v42, .tup [iD (Int.ofNat 1), .one (.bool l45)]] [c_nn b5_, c_nn b10_, c_nn b10_, c_nn b10_, c_nn b10_, c_bn b15_, c_bn b34_, c_bn b34_, c_bn b34_, c_bn b37_, c_bn b37_, c_bn b37_, c_bn b40_, c_bn b40_, c_bn b40_, c_bn b43_, c_bn b43_, c_bn b43_, c_bn b43_, c_bn b43_, c_bn b43_, c_bn b46_, c_bn b46_, c_f f47_, c_bn b46_, c_f f49_, c_bn b46_, c_bn b46_, c_bn b53_, c_bn b53_, c_bn b53_, c_f f54_, c_bn b53_, c_f f56_, c_bn b53_, c_bn b53_, c_bn b60_, c_T, c_bn b70_, c_bn b70_, c_bn b70_, c_bn b70_, c_bn b70_, c_bn b70_, c_bn b70_, c_bn b70_, c_bn b73_, c_bn b73_, c_bn b73_, c_bn b73_, c_bn b73_, c_bn b73_, c_bn b73_, c_bn b76_, c_bn b76_, c_bn b76_, c_bn b76_, c_f f77_, c_bn b76_, c_f f79_, c_bn b76_, c_bn b76_, c_bn b83_, c_T, c_bn b93_, c_bn b93_, c_bn b93_, c_bn b93_, c_bn b93_, c_bn b93_, c_bn b93_, c_bn b93_, c_bn b96_, c_bn b96_, c_bn b96_, c_bn b96_, c_bn b96_, c_bn b96_, c_bn b96_, c_bn b99_, c_bn b99_, c_bn b99_, c_bn b99_, c_f f100_, c_bn b99_, c_f f102_, c_bn b99_, c_bn b99_, c_bn b106_] [k_c f1_, k_c f6_, k_c f11_, k_c f16_, k_c f18_, k_c f20_, k_c f22_, k_c f24_, k_c f26_, k_c f28_, k_c f30_, k_l k65_ (bT 1 (bF 23 (bT 1 (bF 23 [])))) [.tup [iD (Int.ofNat 0), .one (.bool l39)], iD v40, .tup [iD (Int.ofNat 0), iD l41], iD v42, .tup [iD (Int.ofNat 1), .one (.bool l45)]] [iD v40, .tup [iD (Int.ofNat 0), iD l41], iD v42, .tup [iD (Int.ofNat 1), .one (.bool l45)]], k_l k88_ (bT 1 (bF 23 [])) [.tup [iD (Int.ofNat 0), iD l41], iD v42, .tup [iD (Int.ofNat 1), .one (.bool l45)]] [iD v42, .tup [iD (Int.ofNat 1), .one (.bool l45)]], k_l k131_ [] [.tup [iD (Int.ofNat 1), .one (.bool l45)]] []] (by kernel_rfl)
      have h134_ := (if_neg j129_).symm.trans h128_
      clear h128_
      cases h134_
    have h135_ := (if_neg j86_).symm.trans h85_
    clear h85_
    by_cases j136_ : j = 1
    · have h139_ := (if_pos j136_).symm.trans h135_
      clear h135_
      subst j136_
      obtain ⟨l46, e137_, h140_⟩ := pullD_elim h139_
      clear h139_
      obtain rfl := tup_inj e137_
      have k138_ := law4_L24_in1 ka ca kb cb r0 r1 r2 k3 c4 k5 c6 k7 c8 r9 k10 c11 k12 c13 k14 c15 k16 c17 r18 k19 c20 k21 c22 k23 c24 k25 c26 r27 k28 c29 k30 c31 k32 c33 k34 c35 r36 v37 v38 l39 v40 e84_
      obtain rfl := Option.some.inj h140_
      exact con_pc (op := true) (I := [4]) (sp := law4_sp) 3000 (bF 33 (bT 1 (bF 23 []))) [.one (.bool r0), .one (.bool r1), iD r2, .agg [.list k3 c4, .list k5 c6], .tup [.list k7 c8, iD r9], .agg [.list k10 c11, .list k12 c13], .tup [.agg [.list k14 c15, .list k16 c17], iD r18], .agg [.list k19 c20, .list k21 c22], .tup [.agg [.list k23 c24, .list k25 c26], iD r27], .agg [.list k28 c29, .list k30 c31], .tup [.agg [.list k32 c33, .list k34 c35], iD r36], iD v37, iD v38, .tup [iD (Int.ofNat 0), .one (.bool l39)], iD v40, .tup [iD (Int.ofNat 1), .one (.bool l46)]] [c_nn b5_, c_nn b10_, c_nn b10_, c_nn b10_, c_nn b10_, c_bn b15_, c_bn b34_, c_bn b34_, c_bn b34_, c_bn b37_, c_bn b37_, c_bn b37_, c_bn b40_, c_bn b40_, c_bn b40_, c_bn b43_, c_bn b43_, c_bn b43_, c_bn b43_, c_bn b43_, c_bn b43_, c_bn b46_, c_bn b46_, c_f f47_, c_bn b46_, c_f f49_, c_bn b46_, c_bn b46_, c_bn b53_, c_bn b53_, c_bn b53_, c_f f54_, c_bn b53_, c_f f56_, c_bn b53_, c_bn b53_, c_bn b60_, c_T, c_bn b70_, c_bn b70_, c_bn b70_, c_bn b70_, c_bn b70_, c_bn b70_, c_bn b70_, c_bn b70_, c_bn b73_, c_bn b73_, c_bn b73_, c_bn b73_, c_bn b73_, c_bn b73_, c_bn b73_, c_bn b76_, c_bn b76_, c_bn b76_, c_bn b76_, c_f f77_, c_bn b76_, c_f f79_, c_bn b76_, c_bn b76_, c_bn b83_] [k_c f1_, k_c f6_, k_c f11_, k_c f16_, k_c f18_, k_c f20_, k_c f22_, k_c f24_, k_c f26_, k_c f28_, k_c f30_, k_l k65_ (bT 1 (bF 23 [])) [.tup [iD (Int.ofNat 0), .one (.bool l39)], iD v40, .tup [iD (Int.ofNat 1), .one (.bool l46)]] [iD v40, .tup [iD (Int.ofNat 1), .one (.bool l46)]], k_l k138_ [] [.tup [iD (Int.ofNat 1), .one (.bool l46)]] []] (by kernel_rfl)
    have h141_ := (if_neg j136_).symm.trans h135_
    clear h135_
    cases h141_
  have h142_ := (if_neg j63_).symm.trans h62_
  clear h62_
  cases h142_
def m_4 (ds : List D) : Option D := pullD (α := Nat × (List D) × Nat × (List D)) (some (.tup ds)) (fun d => ((D.ln (D.at (D.at d 0) 0)), (D.lc (D.at (D.at d 0) 0)), (D.ln (D.at (D.at d 0) 1)), (D.lc (D.at (D.at d 0) 1)))) (fun (ka, ca, kb, cb) => .tup [.agg [.list ka ca, .list kb cb]]) fun (ka, ca, kb, cb) => law4_M ka ca kb cb
theorem m_4_ok {ds : List D} {r : D} (h : m_4 ds = some r) : Con 4 ds r := by
  unfold m_4 at h
  obtain ⟨⟨ka, ca, kb, cb⟩, e0, h0⟩ := pullD_elim h
  obtain rfl := tup_inj e0
  exact law4_M_ok ka ca kb cb h0
theorem m_4_eq (ka : Nat) (ca : List D) (kb : Nat) (cb : List D) : m_4 [.agg [.list ka ca, .list kb cb]] = law4_M ka ca kb cb := pullD_some (ka, ca, kb, cb) rfl rfl
end
end Go.Proofs.Ytbfefnfmdkgfjaa
/- All forces of a window add up to nothing: the law. -/
namespace Go.Proofs.Ytbfefnfmdkgfjaa
open Go.Ev Go.RowKit
set_option maxRecDepth 100000
noncomputable section
def st14 (ka : Nat) (ca : List D) (kb : Nat) (cb : List D) (ds : List D) : Option Rd := pullD (α := Bool × Int) (some (.tup ds)) (fun d => ((D.vb (D.at d 0)), (D.vi (D.at d 1)))) (fun (s12, s13) => .tup [.one (.bool s12), iD s13]) fun (s12, s13) => ((if s13 < (ka : Int) then (if (s12) = true then guardP ((0 : Int) ≤ s13 ∧ s13.toNat < ka) (pullD (α := Int) (readD ca (s13.toNat * 1) 1 false) (fun d => ((D.vi d))) (fun v0 => iD v0) fun v0 => (guardP ((0 : Int) ≤ s13 ∧ s13.toNat < kb) (pullD (α := Int) (readD cb (s13.toNat * 1) 1 false) (fun d => ((D.vi d))) (fun v1 => iD v1) fun v1 => (some (.next 0 [.one (.bool (v0 == IntKind.i64.wrap ((0 : Int) - v1))), iD (IntKind.i64.wrap (s13 + (1 : Int)))]))))) else some (.next 0 [.one (.bool false), iD (IntKind.i64.wrap (s13 + (1 : Int)))])) else some (.out 0 [.one (.bool s12)])))
def st24 (ka : Nat) (x14 : Nat) (x15 : List D) (x23 : Nat) (x24 : List D) (x39 : Bool) (ds : List D) : Option Rd := pullD (α := Int × Int) (some (.tup ds)) (fun d => ((D.vi (D.at d 0)), (D.vi (D.at d 1)))) (fun (s14, s16) => .tup [iD s14, iD s16]) fun (s14, s16) => ((if s16 < (ka : Int) then guardP ((0 : Int) ≤ s16 ∧ s16.toNat < x14) (pullD (α := Int) (readD x15 (s16.toNat * 1) 1 false) (fun d => ((D.vi d))) (fun v0 => iD v0) fun v0 => (guardP ((0 : Int) ≤ IntKind.i64.wrap (s16 + (1 : Int)) ∧ (IntKind.i64.wrap (s16 + (1 : Int))).toNat < x23) (pullD (α := Int) (readD x24 ((IntKind.i64.wrap (s16 + (1 : Int))).toNat * 1) 1 false) (fun d => ((D.vi d))) (fun v1 => iD v1) fun v1 => (guardP ((0 : Int) ≤ s16 ∧ s16.toNat < x23) (pullD (α := Int) (readD x24 (s16.toNat * 1) 1 false) (fun d => ((D.vi d))) (fun v2 => iD v2) fun v2 => (pullD (α := Int) (readD x15 (s16.toNat * 1) 1 false) (fun d => ((D.vi d))) (fun v3 => iD v3) fun v3 => ((if v1 ≠ IntKind.i64.wrap (v2 + v3) then some (.out 1 [.one (.bool false)]) else (if (x39) = true then pullD (α := Int) (readD x15 (s16.toNat * 1) 1 false) (fun d => ((D.vi d))) (fun v4 => iD v4) fun v4 => ((if v4 ≠ (0 : Int) then some (.out 1 [.one (.bool false)]) else some (.next 0 [iD (IntKind.i64.wrap (s14 + v0)), iD (IntKind.i64.wrap (s16 + (1 : Int)))]))) else some (.next 0 [iD (IntKind.i64.wrap (s14 + v0)), iD (IntKind.i64.wrap (s16 + (1 : Int)))])))))))))) else some (.out 0 [iD s14])))
def st30 (ka : Nat) (ca : List D) (kb : Nat) (cb : List D) (x32 : Nat) (x33 : List D) (x34 : Nat) (x35 : List D) (ds : List D) : Option Rd := pullD (α := Int) (some (.tup ds)) (fun d => ((D.vi (D.at d 0)))) (fun s17 => .tup [iD s17]) fun s17 => ((if s17 < (ka : Int) then guardP ((0 : Int) ≤ s17 ∧ s17.toNat < ka) (pullD (α := Int) (readD ca (s17.toNat * 1) 1 false) (fun d => ((D.vi d))) (fun v0 => iD v0) fun v0 => (guardP ((0 : Int) ≤ s17 ∧ s17.toNat < kb) (pullD (α := Int) (readD cb (s17.toNat * 1) 1 false) (fun d => ((D.vi d))) (fun v1 => iD v1) fun v1 => (guardP ((0 : Int) ≤ s17 ∧ s17.toNat < x32) (pullD (α := Int) (readD x33 (s17.toNat * 1) 1 false) (fun d => ((D.vi d))) (fun v2 => iD v2) fun v2 => (guardP ((0 : Int) ≤ s17 ∧ s17.toNat < x34) (pullD (α := Int) (readD x35 (s17.toNat * 1) 1 false) (fun d => ((D.vi d))) (fun v3 => iD v3) fun v3 => ((if IntKind.i64.wrap (v2 + v3) ≠ IntKind.i64.wrap (IntKind.i64.wrap (v0 - v1) * IntKind.i64.wrap (v0 - v1)) then some (.out 1 [.one (.bool false)]) else some (.next 0 [iD (IntKind.i64.wrap (s17 + (1 : Int)))])))))))))) else some (.out 0 [])))
end
section
variable {a b : List Int}
/-- The ampere turns are opposite at the first levels. -/
def balTo (a b : List Int) : Nat → Bool
  | 0 => true
  | i + 1 => balTo a b i && (at' a i == -at' b i)
theorem balTo_at : ∀ {n i : Nat}, balTo a b n = true → i < n → at' a i = -at' b i
  | 0, i, _, h => absurd h (Nat.not_lt_zero i)
  | n + 1, i, h, hi => by
    simp only [balTo, Bool.and_eq_true, beq_iff_eq] at h
    rcases Nat.lt_or_ge i n with h1 | h1
    · exact balTo_at h.1 h1
    · have : i = n := by omega
      subst this; exact h.2
theorem bal_rs {n k : Nat} (h : balTo a b n = true) (hk : k ≤ n) : rs a b k = 0 := by
  induction k with
  | zero => rfl
  | succ k ih =>
    have h1 := ih (by omega)
    have h2 := balTo_at h (i := k) (by omega)
    have : rs a b (k + 1) = rs a b k + (at' a k + at' b k) := rfl
    omega
theorem bal_ax {n i : Nat} (h : balTo a b n = true) (t : List Int) (hi : i < n) : ax t a b i = 0 := by
  unfold ax
  rw [bal_rs h (by omega), bal_rs h (by omega)]
  simp
theorem ax_tele (k : Nat) : sumTo (ax a a b) k + sumTo (ax b a b) k = rs a b k * rs a b k := by
  induction k with
  | zero => rfl
  | succ k ih =>
    have e : rs a b (k + 1) = rs a b k + (at' a k + at' b k) := rfl
    have e1 : sumTo (ax a a b) (k + 1) = sumTo (ax a a b) k + ax a a b k := rfl
    have e2 : sumTo (ax b a b) (k + 1) = sumTo (ax b a b) k + ax b a b k := rfl
    have e3 : ax a a b k = at' a k * (rs a b k + rs a b (k + 1)) := rfl
    have e4 : ax b a b k = at' b k * (rs a b k + rs a b (k + 1)) := rfl
    rw [e1, e2, e3, e4, e]
    generalize sumTo (ax a a b) k = p at ih ⊢
    generalize sumTo (ax b a b) k = q at ih ⊢
    generalize rs a b k = r at ih ⊢
    grind
theorem rs_end (h : Win a b) : rs a b a.length = 0 := by
  unfold rs
  rw [sumTo_add]
  exact h.sum
theorem go14 (h : Win a b) (S : Rd → Option Rd) (hS : ∀ ds, S (.next 0 ds) = st14 a.length (a.map iD) b.length (b.map iD) ds) :
    runR S (.next 0 [.one (.bool true), iD 0]) = some (.out 0 [.one (.bool (balTo a b a.length))]) := by
  have hle := h.le
  have hlen := h.len
  have h1 : runR S (.next 0 [.one (.bool true), iD 0]) = _ := runR_scan (S := S) (fun _ => 0) (fun i => [.one (.bool (balTo a b i)), iD (i : Int)]) (Nat.zero_le a.length) (fun i _ hi => by
    have ha := h.ra i
    have hb := h.rb i
    show S (.next 0 _) = _
    rw [hS]
    unfold st14
    rw [pullD_some (balTo a b i, (i : Int)) (by rfl) (by rfl)]
    dsimp only
    rw [if_pos (by omega)]
    by_cases hq : balTo a b i = true
    · rw [if_pos hq, guardP_pos (by omega), readA hi, pullD_some (at' a i) (by rfl) (by rfl), guardP_pos (by omega), readA (by omega), pullD_some (at' b i) (by rfl) (by rfl), wrapJ (0 - at' b i) (by omega) (by omega), natI (by omega), Int.zero_sub]
      simp only [balTo, hq, Bool.true_and]
    · rw [if_neg hq, natI (by omega)]
      have hq : balTo a b i = false := by simpa using hq
      simp only [balTo, hq, Bool.false_and])
  refine h1.trans (runR_exit ?_)
  rw [hS]
  unfold st14
  rw [pullD_some (balTo a b a.length, (a.length : Int)) (by rfl) (by rfl)]
  dsimp only
  rw [if_neg (by omega)]
theorem go24 (h : Win a b) {t : List Int} (ht : ∀ i, -100 ≤ at' t i ∧ at' t i ≤ 100) (s : Int) (hs : -1000000000 ≤ s ∧ s ≤ 1000000000) (S : Rd → Option Rd)
    (hS : ∀ ds, S (.next 0 ds) = st24 a.length a.length ((tab a.length (ax t a b)).map iD) (a.length + 1) ((tab (a.length + 1) (th t a b)).map iD) (balTo a b a.length) ds) :
    runR S (.next 0 [iD s, iD 0]) = some (.out 0 [iD (s + th t a b a.length)]) := by
  have hle := h.le
  have h1 : runR S (.next 0 [iD (s + th t a b 0), iD 0]) = _ := runR_scan (S := S) (fun _ => 0) (fun i => [iD (s + th t a b i), iD (i : Int)]) (Nat.zero_le a.length) (fun i _ hi => by
    have e1 : th t a b (i + 1) = th t a b i + ax t a b i := rfl
    have b1 := th_bound h ht (k := i) (by omega)
    have b2 := th_bound h ht (k := i + 1) (by omega)
    have b3 := ax_bound h ht (i := i) (by omega)
    show S (.next 0 _) = _
    rw [hS]
    unfold st24
    rw [pullD_some (s + th t a b i, (i : Int)) (by rfl) (by rfl)]
    dsimp only
    have e2 : IntKind.i64.wrap ((i : Int) + 1) = ((i + 1 : Nat) : Int) := natI (by omega)
    simp only [e2, Int.toNat_natCast]
    rw [if_pos (by omega), guardP_pos (by omega), readM _ hi, pullD_some (ax t a b i) (by rfl) (by rfl), guardP_pos (by omega), readM _ (by omega), pullD_some (th t a b (i + 1)) (by rfl) (by rfl), guardP_pos (by omega), readM _ (by omega), pullD_some (th t a b i) (by rfl) (by rfl), pullD_some (ax t a b i) (by rfl) (by rfl),
      wrapJ (th t a b i + ax t a b i) (by omega) (by omega), if_neg (by rw [e1]; simp), wrapJ (s + th t a b i + ax t a b i) (by omega) (by omega), e1, Int.add_assoc]
    by_cases hq : balTo a b a.length = true
    · rw [if_pos hq, pullD_some (ax t a b i) (by rfl) (by rfl), if_neg (by rw [bal_ax hq t hi]; decide)]
    · rw [if_neg hq])
  have e0 : s + th t a b 0 = s := by show s + 0 = s; omega
  rw [e0] at h1
  refine h1.trans (runR_exit ?_)
  rw [hS]
  unfold st24
  rw [pullD_some (s + th t a b a.length, (a.length : Int)) (by rfl) (by rfl)]
  dsimp only
  rw [if_neg (by omega)]
theorem go30 (h : Win a b) (S : Rd → Option Rd) (hS : ∀ ds, S (.next 0 ds) = st30 a.length (a.map iD) b.length (b.map iD) a.length ((tab a.length (rx a b)).map iD) a.length ((tab a.length (ry a b)).map iD) ds) :
    runR S (.next 0 [iD 0]) = some (.out 0 []) := by
  have hle := h.le
  have hlen := h.len
  have h1 : runR S (.next 0 [iD 0]) = _ := runR_scan (S := S) (fun _ => 0) (fun i => [iD (i : Int)]) (Nat.zero_le a.length) (fun i _ hi => by
    have ha := h.ra i
    have hb := h.rb i
    have b1 := rx_bound h i
    have b2 := ry_bound h i
    have e3 : rx a b i + ry a b i = (at' a i - at' b i) * (at' a i - at' b i) := by unfold rx ry; grind
    show S (.next 0 _) = _
    rw [hS]
    unfold st30
    rw [pullD_some (i : Int) (by rfl) (by rfl)]
    have e2 : IntKind.i64.wrap ((i : Int) + 1) = ((i + 1 : Nat) : Int) := natI (by omega)
    simp only [e2, Int.toNat_natCast]
    rw [if_pos (by omega), guardP_pos (by omega), readN hi, pullD_some (at' a i) (by rfl) (by rfl), guardP_pos (by omega), readN (by omega), pullD_some (at' b i) (by rfl) (by rfl), guardP_pos (by omega), readM _ hi, pullD_some (rx a b i) (by rfl) (by rfl), guardP_pos (by omega), readM _ hi, pullD_some (ry a b i) (by rfl) (by rfl),
      wrapJ (at' a i - at' b i) (by omega) (by omega), e3, if_neg (by simp)])
  refine h1.trans (runR_exit ?_)
  rw [hS]
  unfold st30
  rw [pullD_some (a.length : Int) (by rfl) (by rfl), if_neg (by omega)]
theorem law4_eq (a b : List Int) : m_4 [wnD a b] = some (.one (.bool true)) := by
  rw [m_4_eq]
  unfold law4_M
  rw [m_8_eq, pullB, if_neg (by decide), show [D.agg [D.list a.length (a.map iD), D.list b.length (b.map iD)]] = [wnD a b] from rfl, few_eq, pullB]
  by_cases hf : a.length ≤ 17 ∧ b.length ≤ 17
  rotate_left
  · rw [if_pos (by simpa using hf)]
  rw [if_neg (by simpa using hf)]
  obtain ⟨e, he, hw⟩ := winErr_eq a b
  rw [he, pullI]
  by_cases h0 : e ≠ 0
  · rw [if_pos h0]
  rw [if_neg h0]
  have h := hw (by omega)
  have hp := h.pos
  have hle := h.le
  have hlen := h.len
  have en : IntKind.i64.wrap ((a.length : Int) + 1) = ((a.length + 1 : Nat) : Int) := natI (by omega)
  have fold : [D.agg [D.list a.length (a.map iD), D.list b.length (b.map iD)]] = [wnD a b] := rfl
  rw [copyW_eq a b (by omega) (by omega), pullD_some (a.length, a.map iD, b.length, b.map iD) (by rfl) (by rfl)]
  dsimp only
  rw [fold, residOf_eq h, pullD_some ((tab (a.length + 1) (rs a b)).length, (tab (a.length + 1) (rs a b)).map iD, 0) (by rfl) (by rfl)]
  dsimp only
  rw [pullD_some (a.length, a.map iD, b.length, b.map iD) (by rfl) (by rfl)]
  dsimp only
  rw [fold, axialOf_eq h, pullD_some ((tab a.length (ax a a b)).length, (tab a.length (ax a a b)).map iD, (tab a.length (ax b a b)).length, (tab a.length (ax b a b)).map iD, 0) (by rfl) (by rfl)]
  dsimp only
  rw [pullD_some (a.length, a.map iD, b.length, b.map iD) (by rfl) (by rfl)]
  dsimp only
  rw [fold, thrustsOf_eq h, pullD_some ((tab (a.length + 1) (th a a b)).length, (tab (a.length + 1) (th a a b)).map iD, (tab (a.length + 1) (th b a b)).length, (tab (a.length + 1) (th b a b)).map iD, 0) (by rfl) (by rfl)]
  dsimp only
  rw [pullD_some (a.length, a.map iD, b.length, b.map iD) (by rfl) (by rfl)]
  dsimp only
  rw [fold, radialOf_eq h, pullD_some ((tab a.length (rx a b)).length, (tab a.length (rx a b)).map iD, (tab a.length (ry a b)).length, (tab a.length (ry a b)).map iD, 0) (by rfl) (by rfl)]
  dsimp only
  simp only [tab_len, en]
  rw [if_neg (by decide), if_neg (by decide), if_neg (by decide), if_neg (by decide), if_neg (by simp), guardP_pos ⟨by omega, by show 0 < _; omega⟩]
  rw [show Int.toNat 0 * 1 = 0 * 1 from rfl, readM _ (by omega), pullD_some (rs a b 0) (by rfl) (by rfl), if_neg (by show ¬ ((0 : Int) ≠ 0); decide), Int.toNat_natCast, guardP_pos ⟨by omega, by omega⟩, readM _ (by omega), pullD_some (rs a b a.length) (by rfl) (by rfl), if_neg (by rw [rs_end h]; decide)]
  rw [bindL_some (go14 h _ fun _ => rfl), if_pos rfl, pullD_some (balTo a b a.length) (by rfl) (by rfl)]
  rw [if_neg (by simp), if_neg (by simp), if_neg (by simp), guardP_pos ⟨by omega, by omega⟩, readM _ (by omega), pullD_some (th a a b 0) (by rfl) (by rfl), if_neg (by show ¬ ((0 : Int) ≠ 0); decide)]
  rw [bindL_some (go24 h h.ra 0 (by omega) _ fun _ => rfl), if_pos rfl, pullD_some (0 + th a a b a.length) (by rfl) (by rfl)]
  rw [if_neg (by simp), if_neg (by simp), if_neg (by simp), guardP_pos ⟨by omega, by omega⟩, readM _ (by omega), pullD_some (th b a b 0) (by rfl) (by rfl), if_neg (by show ¬ ((0 : Int) ≠ 0); decide)]
  have hb := th_bound h h.ra (k := a.length) (by omega)
  rw [bindL_some (go24 h h.rb (0 + th a a b a.length) (by omega) _ fun _ => rfl), if_pos rfl, pullD_some (0 + th a a b a.length + th b a b a.length) (by rfl) (by rfl)]
  rw [bindL_some (go30 h _ fun _ => rfl), if_pos rfl, pullD_some () (by rfl) (by rfl)]
  have hz : (0 : Int) + th a a b a.length + th b a b a.length = 0 := by
    have := ax_tele (a := a) (b := b) a.length
    rw [rs_end h] at this
    unfold th
    omega
  rw [hz]
  rfl
theorem law4_con (a b : List Int) : Con 4 [.agg [lD a, lD b]] (.one (.bool true)) := m_4_ok (law4_eq a b)
end
end Go.Proofs.Ytbfefnfmdkgfjaa
/- ForceClosed: what the runs give, for every argument. -/
namespace Go.Proofs.Ytbfefnfmdkgfjaa.forceClosed
open Go.ChangeShapes Go.WideShapes Go.ChangeAt Go.RowKit Go.Joins Go.Ev
set_option maxRecDepth 100000 in
/-- WHAT THE RUNS GIVE, FOR EVERY ARGUMENT AND EVERY WORLD THAT HOLDS THE TABLES. -/
theorem contract (H : Type) (enc : TypeId × Value → H) (W : World) (base : Nat) (args : Array Value) (ds gs : List (DataW H)) (before : List MemPlace)
    (hval : ∀ (j : Nat) t v, Try.f4.params[j]? = some t → args[j]? = some v → Value.okWide Try.prog W .any base t v)
    (hW : DataW.Whole enc Try.prog Try.f4.params.toList Rows.forceClosedSpec.vars false W args.toList ds gs before) (hL : laidMetH Try.prog Rows.forceClosedRow.laid W) :
    Calls Try.prog 4 args W fun e W' => ∃ v, e = .returned v ∧ Rows.forceClosedSpec.post enc Try.prog Try.f4 false true false false W args v W' := by
  have hW' := hW
  have hlt := hW.lt
  obtain ⟨p, q, hA0, hV, rfl, hfz, hnd⟩ := hW
  have hA : DataW.TrodAll enc Try.prog W 0 (fun _ => true) true Try.f4.params.toList args.toList ds p := hA0
  rw [Try.params4] at hA hval
  obtain ⟨v0, vs0, d0, ds0, p0, q0, hargs, rfl, rfl, h0, r0⟩ := trodAll_cons hA
  obtain ⟨rfl, rfl, rfl⟩ := trodAll_nil r0
  obtain rfl : args = #[v0] := by cases args; simp_all
  obtain ⟨rfl, rfl⟩ := trodVars_none hV
  obtain ⟨e0, o0, k0⟩ := open_agg (ls := [.sl [.int .i64], .sl [.int .i64]]) 8 (by kernel_rfl) (by kernel_rfl) (by kernel_rfl) (hval 0 24 v0 rfl rfl) h0
  obtain ⟨a, b, rfl⟩ := win_of o0
  have hr : RpL (fun _ => True) W [.agg [lD a, lD b]] [v0] := by
    simp only [RpL]
    exact ⟨v0, _, rfl, k0, rfl⟩
  refine (law4_con a b W (fun _ => True) _ tabs0 hr).mono fun e W' ⟨v, he, hv, hg⟩ => ?_
  simp only [Rp] at hv
  subst he
  subst hv
  have hlaid : laidOutB Try.prog = true := by kernel_rfl
  exact ⟨_, rfl, post_below (pa := (p0 ++ [])) (pv := []) hW' (fun _ _ _ => trodAll_cons_mk (shut_bool Try.underlying4 _) trodAll_mk0) (fun sp hsp => by
    rw [Try.params4]
    exact trodAll_cons_mk (stays hlaid (by kernel_rfl) (of_decide_eq_true (by kernel_rfl)) h0 hg (fun x hx => hlt x (by simp only [List.mem_append]; left; left; exact hx)) (fun x hx => hsp x (by simp only [List.mem_append]; left; left; exact hx))) (trodAll_mk0)) (fun _ _ => rfl) rfl
    hg (ok_one (by kernel_rfl) rfl (okWide_bool_mk Try.underlying4 _))⟩
end Go.Proofs.Ytbfefnfmdkgfjaa.forceClosed
/- ForceClosed: closed facts of the witness. -/
namespace Go.Proofs.Ytbfefnfmdkgfjaa.forceClosed
open Go.ChangeShapes Go.WideShapes Go.ChangeAt Go.RowKit Go.Joins
/-- THE WITNESS's ARGUMENTS. -/
noncomputable def args0 : Array Value := #[.agg #[.slice none 0 0, .slice none 0 0]]
/-- A WORLD FOR THE WITNESS: the heap that the program's own initialisers leave. -/
noncomputable def start (os : Os) : World := World.doorLaid Try.prog 400 os
theorem laid_met (os : Os) : laidMet Try.prog Rows.forceClosedRow.laid ((start os).forCall (fun _ _ => 0) ⟨#[], args0, []⟩).memory := ⟨[], rfl, List.nodup_nil, fun _ _ h => by cases h⟩
theorem reads (os : Os) {H : Type} (enc : TypeId × Value → H) : ∃ places, DataW.whole enc Try.prog ((start os).forCall (fun _ _ => 0) ⟨#[], args0, []⟩).memory Try.f4.params.toList Rows.forceClosedSpec.vars false args0.toList 8 = some ([.agg [.nil, .nil]], [], places) :=
  ⟨[], by kernel_rfl⟩
theorem vB (os : Os) : ((start os).forCall (fun _ _ => 0) ⟨#[], args0, []⟩).variablesB Try.prog = true := by kernel_rfl
theorem rB (os : Os) : (((start os).forCall (fun _ _ => 0) ⟨#[], args0, []⟩).heap.toList.drop Try.prog.globals.size).take ((begin Try.prog (fun _ _ => 0) default).world.heap.size - Try.prog.globals.size) = (begin Try.prog (fun _ _ => 0) default).world.heap.toList.drop Try.prog.globals.size := by kernel_rfl
theorem oB (os : Os) : Input.okWideB Try.prog ((start os).forCall (fun _ _ => 0) ⟨#[], args0, []⟩) 4 ⟨#[], args0, []⟩ = true := by kernel_rfl
theorem hB (os : Os) : (start os).os = os := by kernel_rfl
end Go.Proofs.Ytbfefnfmdkgfjaa.forceClosed
/- For any window, valid or not, the law ForceClosed of the program answers true, and its argument reads as it did. CONDITIONS: none. -/
namespace Go.Proofs.Ytbfefnfmdkgfjaa.forceClosed
open Go.ChangeShapes Go.WideShapes Go.ChangeAt Go.RowKit Go.Joins
set_option maxRecDepth 100000 in
theorem lifted (os : Os) (started : os.Started) (H : Type) (enc : TypeId × Value → H) (F : Stop.Interp) :
    ReturnsInHanded {} Try.checked os 4 .any ((OpenSpec.ofChange Rows.forceClosedSpec).preRow enc Try.prog Try.f4 Rows.forceClosedRow.domain false Rows.forceClosedRow.laid) (((OpenSpec.ofChange Rows.forceClosedSpec).at F).post enc Try.prog Try.f4 false true false false) := by
  obtain ⟨places, hx⟩ := reads os enc
  refine returnsInHanded_of_row (C := Try.checked) (s := OpenSpec.ofChange Rows.forceClosedSpec) own started (by kernel_rfl) Try.func4
    (witness_row_at (enc := enc) (C := Try.checked) false (start os) args0 (hB os) (vB os) (rB os) (oB os)
      (OpenSpec.preRow_of_cond 8 hx (by kernel_rfl) (fun k hk => by cases hk) (by kernel_rfl) (laid_met os))) ?_
  intro W base args ds gs before hval hW _ _ _ hL _ _
  exact contract H enc W base args ds gs before hval hW hL
theorem said : Rows.ForceClosedSaid :=
  OpenClaim.holds_of_cond 4 Try.f4 rfl rfl rfl rfl rfl rfl rfl ⟨rfl, rfl, rfl, rfl, rfl⟩ rfl rfl rfl rfl rfl (by kernel_rfl) Try.func4 (by kernel_rfl)
    (of_decide_eq_true (by kernel_rfl)) (by unfold Func.isWrapper; first | (rw [if_pos (by decide +kernel)]; kernel_rfl) | (rw [if_neg (by decide +kernel)]; exact ⟨rfl, rfl⟩))
    (fun os started H enc _ F => by rw [OpenClaim.pre_eq_preRow]; exact lifted os started H enc F)
end Go.Proofs.Ytbfefnfmdkgfjaa.forceClosed
