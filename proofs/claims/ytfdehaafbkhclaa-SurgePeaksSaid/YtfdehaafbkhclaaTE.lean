/- For any line and sources, valid or not, the law SurgePeaks of the program answers true, and its arguments read as they did. CONDITIONS: none. -/
import Derived.Test.YtfdehaafbkhclaaTD
import Derived.Test.YtfdehaafbkhclaaTA
set_option linter.unusedVariables false
set_option linter.unusedSimpArgs false
set_option linter.unusedSectionVars false
set_option linter.unnecessarySimpa false
namespace Go.Proofs.Ytfdehaafbkhclaa
open Go.Ev Go.RowKit
set_option maxRecDepth 100000
set_option maxHeartbeats 8000000
set_option linter.all false
noncomputable section
def sizeOf_sp : List LSpec := []
def sizeOf_M (n : Int) : Option D := some (iD (if IntKind.i64.wrap ((0 : Int) - n) > n then IntKind.i64.wrap ((0 : Int) - n) else n))
theorem sizeOf_M_ok (n : Int) {r : D} (h : sizeOf_M n = some r) : Con 58 [iD n] r := by
  unfold sizeOf_M at h
  obtain rfl := Option.some.inj h
  exact con_pc (op := true) (I := [58]) (sp := sizeOf_sp) 3000 [] [] [] [] (by kernel_rfl)
def m_58 (ds : List D) : Option D := pullD (α := Int) (some (.tup ds)) (fun d => ((D.vi (D.at d 0)))) (fun n => .tup [iD n]) fun n => sizeOf_M n
theorem m_58_ok {ds : List D} {r : D} (h : m_58 ds = some r) : Con 58 ds r := by
  unfold m_58 at h
  obtain ⟨n, e0, h0⟩ := pullD_elim h
  obtain rfl := tup_inj e0
  exact sizeOf_M_ok n h0
theorem m_58_eq (n : Int) : m_58 [iD n] = sizeOf_M n := pullD_some n rfl rfl
def size_sp : List LSpec := []
def size_M (n : Int) : Option D := some (iD (if IntKind.i64.wrap ((0 : Int) - n) > n then IntKind.i64.wrap ((0 : Int) - n) else n))
theorem size_M_ok (n : Int) {r : D} (h : size_M n = some r) : Con 43 [iD n] r := by
  unfold size_M at h
  obtain rfl := Option.some.inj h
  exact con_pc (op := true) (I := [43]) (sp := size_sp) 3000 [] [] [] [] (by kernel_rfl)
def m_43 (ds : List D) : Option D := pullD (α := Int) (some (.tup ds)) (fun d => ((D.vi (D.at d 0)))) (fun n => .tup [iD n]) fun n => size_M n
theorem m_43_ok {ds : List D} {r : D} (h : m_43 ds = some r) : Con 43 ds r := by
  unfold m_43 at h
  obtain ⟨n, e0, h0⟩ := pullD_elim h
  obtain rfl := tup_inj e0
  exact size_M_ok n h0
theorem m_43_eq (n : Int) : m_43 [iD n] = size_M n := pullD_some n rfl rfl
def peaksOf_x8_0 : LExit := ⟨some 0, [.cmade 9 0, .cmade 9 1, .cval 6 0, .cval 6 1, .cnil 4 0, .cnil 4 1], (5 :: (List.range' 11 4 ++ (List.range' 41 21)))⟩
def peaksOf_x8_1 : LExit := ⟨none, [.val 5, .cmade 9 0, .cmade 9 1, .cval 6 0, .cval 6 1, .cnil 4 0, .cnil 4 1], (List.range' 11 4 ++ (List.range' 41 21))⟩
def peaksOf_x42_2_0 : LExit := ⟨some 0, [.cmade 2 0], (4 :: (5 :: (List.range' 9 18)))⟩
def peaksOf_x42_7_0 : LExit := ⟨some 2, [.cmade 2 1], (6 :: (List.range' 30 25))⟩
def peaksOf_sp : List LSpec := [⟨21, 8, [peaksOf_x8_0, peaksOf_x8_1]⟩, ⟨42, 2, [peaksOf_x42_2_0]⟩, ⟨42, 7, [peaksOf_x42_7_0]⟩]
def peaksOf_L42_7_E (ky : Nat) (cy : List D) (er : Bool) (ku : Nat) (cu : List D) (x0 : Nat) (x1 : List D) (x2 : Nat) (x3 : List D) (x4 : Int) (x5 : Int) (x6 : List D) (x7 : Nat) (x8 : List D) (x9 : Nat) (x10 : List D) (x11 : Nat) (x12 : List D) (x13 : Nat) (x14 : List D) (x15 : Nat) (x16 : List D) (x17 : List D) : List AV × AHeap := ([.agg [.bsl 8 0 (IntKind.i64.wrap ((ky : Int) + (1 : Int))).toNat (IntKind.i64.wrap ((ky : Int) + (1 : Int))).toNat, .bsl 9 0 ((ky : Int)).toNat ((ky : Int)).toNat], .dsl 45, .ptr 47 0, .pure (.tuple #[]), .any 48, .any 49, .pure (.tuple #[]), .dsl 45, .pure (.int .i64 (x15 : Int)), .any 50, .any 51, .any 52, .any 53, .any 54, .any 55, .any 56, .any 57, .any 58, .any 59, .any 60, .any 61, .any 62, .any 63, .any 64, .any 65, .any 66, .any 67, .ptr 47 1, .bsl 9 0 ((ky : Int)).toNat ((ky : Int)).toNat, .pure (.int .i64 ((((ky : Int)).toNat : Nat) : Int)), .pure (.int .i64 (0 : Int)), .pure (.tuple #[]), .pure (.tuple #[]), .pure (.tuple #[]), .pure (.tuple #[]), .pure (.tuple #[]), .pure (.tuple #[]), .pure (.tuple #[]), .pure (.tuple #[]), .pure (.tuple #[]), .pure (.tuple #[]), .pure (.tuple #[]), .pure (.tuple #[]), .pure (.tuple #[]), .pure (.tuple #[]), .pure (.tuple #[]), .pure (.tuple #[]), .pure (.tuple #[]), .pure (.tuple #[]), .pure (.tuple #[]), .pure (.tuple #[]), .pure (.tuple #[]), .pure (.tuple #[]), .pure (.tuple #[]), .pure (.tuple #[])], [(47, { cells := [.bsl 8 0 (IntKind.i64.wrap ((ky : Int) + (1 : Int))).toNat (IntKind.i64.wrap ((ky : Int) + (1 : Int))).toNat, .bsl 9 0 ((ky : Int)).toNat ((ky : Int)).toNat], opn := none, kind := .cells }), (46, { cells := [.dsl 43, .dsl 44], opn := none, kind := .cells }), (45, { cells := [], opn := none, kind := .deep x15 x16 }), (44, { cells := [], opn := none, kind := .deep x13 x14 }), (43, { cells := [], opn := none, kind := .deep x11 x12 }), (12, { cells := [], opn := none, kind := .deep x9 x10 }), (11, { cells := [], opn := none, kind := .deep x7 x8 }), (8, { cells := [], opn := none, kind := .big x17 }), (9, { cells := [], opn := none, kind := .big x6 }), (10, { cells := [.bsl 8 0 (IntKind.i64.wrap ((ky : Int) + (1 : Int))).toNat (IntKind.i64.wrap ((ky : Int) + (1 : Int))).toNat, .bsl 9 0 ((ky : Int)).toNat ((ky : Int)).toNat], opn := none, kind := .cells }), (7, { cells := [.pure (.int .i64 x4), .pure (.int .i64 x5)], opn := none, kind := .cells }), (6, { cells := [.dsl 11, .dsl 12], opn := none, kind := .cells }), (5, { cells := [], opn := none, kind := .deep x2 x3 }), (4, { cells := [], opn := none, kind := .deep x0 x1 }), (3, { cells := [.pure (.slice none 0 0), .pure (.slice none 0 0)], opn := none, kind := .cells }), (2, { cells := [.dsl 0, .pure (.bool er)], opn := none, kind := .cells }), (1, { cells := [], opn := none, kind := .deep ku cu }), (0, { cells := [], opn := none, kind := .deep ky cy })])
def peaksOf_L42_7_A : LoopAt := ⟨42, loopAt Try.prog 42 1, 69, 96, 9, noFrame⟩
theorem peaksOf_L42_7_ok : (peaksOf_L42_7_A).OK := ⟨by show 69 ≤ 96; decide, by show 9 ≤ 69; decide, by kernel_rfl, rfl⟩
def peaksOf_L42_7_gs (ky : Nat) (cy : List D) (er : Bool) (ku : Nat) (cu : List D) (x0 : Nat) (x1 : List D) (x2 : Nat) (x3 : List D) (x4 : Int) (x5 : Int) (x6 : List D) (x7 : Nat) (x8 : List D) (x9 : Nat) (x10 : List D) (x11 : Nat) (x12 : List D) (x13 : Nat) (x14 : List D) (x15 : Nat) (x16 : List D) (x17 : List D) : Go.Ev.Rd → Option GS
  | .next 0 ds => ghost [.val 30, .cmade 2 1] (6 :: (List.range' 31 24)) (peaksOf_L42_7_E ky cy er ku cu x0 x1 x2 x3 x4 x5 x6 x7 x8 x9 x10 x11 x12 x13 x14 x15 x16 x17).1 (peaksOf_L42_7_E ky cy er ku cu x0 x1 x2 x3 x4 x5 x6 x7 x8 x9 x10 x11 x12 x13 x14 x15 x16 x17).2 69 ds
  | .out 0 ds => ghost peaksOf_x42_7_0.live peaksOf_x42_7_0.junk (peaksOf_L42_7_E ky cy er ku cu x0 x1 x2 x3 x4 x5 x6 x7 x8 x9 x10 x11 x12 x13 x14 x15 x16 x17).1 (peaksOf_L42_7_E ky cy er ku cu x0 x1 x2 x3 x4 x5 x6 x7 x8 x9 x10 x11 x12 x13 x14 x15 x16 x17).2 69 ds
  | _ => none
def peaksOf_L42_7_ex : Nat → Option Nat
  | 0 => peaksOf_x42_7_0.ex
  | _ => none
def peaksOf_L42_7_ax : Go.Ev.Rd → AX
  | .next _ _ => .normal
  | .out j _ => axOf (peaksOf_L42_7_ex j)
def peaksOf_L42_7_S0 (ky : Nat) (cy : List D) (er : Bool) (ku : Nat) (cu : List D) (x0 : Nat) (x1 : List D) (x2 : Nat) (x3 : List D) (x4 : Int) (x5 : Int) (x6 : List D) (x7 : Nat) (x8 : List D) (x9 : Nat) (x10 : List D) (x11 : Nat) (x12 : List D) (x13 : Nat) (x14 : List D) (x15 : Nat) (x16 : List D) (x17 : List D) (ds : List D) : Option Go.Ev.Rd := pullD (α := Int × Nat × (List D)) (some (.tup ds)) (fun d => ((D.vi (D.at d 0)), (D.ln (D.at d 1)), (D.lc (D.at d 1)))) (fun (s30, s2_1n, s2_1c) => .tup [iD s30, .list s2_1n s2_1c]) fun (s30, s2_1n, s2_1c) => ((if s30 < ((((ky : Int)).toNat : Nat) : Int) then guardP ((0 : Int) ≤ s30 ∧ s30.toNat < ((ky : Int)).toNat) (pullD (α := Int) (readD s2_1c (0 + s30.toNat * 1) 1 false) (fun d => ((D.vi d))) (fun v0 => iD v0) fun v0 => (guardP ((0 : Int) ≤ s30 ∧ s30.toNat < x15) (pullD (α := Int) (readD x16 (s30.toNat * 1) 1 false) (fun d => ((D.vi d))) (fun v1 => iD v1) fun v1 => (guardP ((0 : Int) ≤ IntKind.i64.wrap (s30 + (1 : Int)) ∧ (IntKind.i64.wrap (s30 + (1 : Int))).toNat < x15) (pullD (α := Int) (readD x16 ((IntKind.i64.wrap (s30 + (1 : Int))).toNat * 1) 1 false) (fun d => ((D.vi d))) (fun v2 => iD v2) fun v2 => (pullD (α := Int) (m_58 [iD (IntKind.i64.wrap (v1 - v2))]) (fun d => ((D.vi d))) (fun r3 => iD r3) fun r3 => (guardP (0 + s30.toNat * 1 + 1 ≤ s2_1c.length ∧ ∀ (u : D), u ∈ [dCell (.int .i64 (if r3 > v0 then r3 else v0))] → cellD u) (some (.next 0 [iD (IntKind.i64.wrap (s30 + (1 : Int))), .list ((ky : Int)).toNat (List.append (List.take (0 + s30.toNat * 1) s2_1c ++ [dCell (.int .i64 (if r3 > v0 then r3 else v0))]) (List.drop (0 + s30.toNat * 1 + [dCell (.int .i64 (if r3 > v0 then r3 else v0))].length) s2_1c))]))))))))) else some (.out 0 [.list ((ky : Int)).toNat s2_1c])))
def peaksOf_L42_7_S (ky : Nat) (cy : List D) (er : Bool) (ku : Nat) (cu : List D) (x0 : Nat) (x1 : List D) (x2 : Nat) (x3 : List D) (x4 : Int) (x5 : Int) (x6 : List D) (x7 : Nat) (x8 : List D) (x9 : Nat) (x10 : List D) (x11 : Nat) (x12 : List D) (x13 : Nat) (x14 : List D) (x15 : Nat) (x16 : List D) (x17 : List D) : Go.Ev.Rd → Option Go.Ev.Rd
  | .next 0 ds => peaksOf_L42_7_S0 ky cy er ku cu x0 x1 x2 x3 x4 x5 x6 x7 x8 x9 x10 x11 x12 x13 x14 x15 x16 x17 ds
  | _ => none
theorem peaksOf_L42_7_S_ok (ky : Nat) (cy : List D) (er : Bool) (ku : Nat) (cu : List D) (x0 : Nat) (x1 : List D) (x2 : Nat) (x3 : List D) (x4 : Int) (x5 : Int) (x6 : List D) (x7 : Nat) (x8 : List D) (x9 : Nat) (x10 : List D) (x11 : Nat) (x12 : List D) (x13 : Nat) (x14 : List D) (x15 : Nat) (x16 : List D) (x17 : List D) : ∀ s_ t_, peaksOf_L42_7_S ky cy er ku cu x0 x1 x2 x3 x4 x5 x6 x7 x8 x9 x10 x11 x12 x13 x14 x15 x16 x17 s_ = some t_ → Step (ctx [21, 42] peaksOf_sp) Tabs peaksOf_L42_7_A (stateOf (peaksOf_L42_7_gs ky cy er ku cu x0 x1 x2 x3 x4 x5 x6 x7 x8 x9 x10 x11 x12 x13 x14 x15 x16 x17 s_)) (stateOf (peaksOf_L42_7_gs ky cy er ku cu x0 x1 x2 x3 x4 x5 x6 x7 x8 x9 x10 x11 x12 x13 x14 x15 x16 x17 t_)) (peaksOf_L42_7_ax t_) ∧ EndOK peaksOf_L42_7_A.nx peaksOf_L42_7_A.low (peaksOf_L42_7_gs ky cy er ku cu x0 x1 x2 x3 x4 x5 x6 x7 x8 x9 x10 x11 x12 x13 x14 x15 x16 x17) t_
  | .next 0 ds, t_, h => by
    have h_ : peaksOf_L42_7_S0 ky cy er ku cu x0 x1 x2 x3 x4 x5 x6 x7 x8 x9 x10 x11 x12 x13 x14 x15 x16 x17 ds = some t_ := h
    clear h
    unfold peaksOf_L42_7_S0 at h_
    obtain ⟨⟨s30, s2_1n, s2_1c⟩, e0, h0⟩ := pullD_elim h_
    clear h_
    obtain rfl := tup_inj e0
    by_cases b1_ : s30 < ((((ky : Int)).toNat : Nat) : Int)
    · have h2_ := (if_pos b1_).symm.trans h0
      obtain ⟨f3_, h4_⟩ := guardP_elim h2_
      obtain ⟨v0, f5_, h6_⟩ := pullD_elim h4_
      replace f5_ := readD_elim f5_
      obtain ⟨f7_, h8_⟩ := guardP_elim h6_
      obtain ⟨v1, f9_, h10_⟩ := pullD_elim h8_
      replace f9_ := readD_elim f9_
      obtain ⟨f11_, h12_⟩ := guardP_elim h10_
      obtain ⟨v2, f13_, h14_⟩ := pullD_elim h12_
      replace f13_ := readD_elim f13_
      obtain ⟨r3, f15_, h16_⟩ := pullD_elim h14_
      replace f15_ := m_58_ok f15_
      obtain ⟨f17_, h18_⟩ := guardP_elim h16_
      obtain rfl := Option.some.inj h18_
      exact ⟨step_pc 3000 (bT 1 []) [iD v0, iD v1, iD v2, iD r3] [c_d b1_, c_f f3_, c_f f5_, c_f f7_, c_f f9_, c_f f11_, c_f f13_, c_f f3_, c_f f17_] [k_c f15_] _ rfl (by kernel_rfl) (by kernel_rfl) (by kernel_rfl) (by kernel_rfl) (by kernel_rfl) (by kernel_rfl), trivial⟩
    have h2_ := (if_neg b1_).symm.trans h0
    obtain rfl := Option.some.inj h2_
    exact ⟨step_pc 3000 (bF 1 []) [] [c_n b1_] [] _ rfl (by kernel_rfl) (by kernel_rfl) (by kernel_rfl) (by kernel_rfl) (by kernel_rfl) (by kernel_rfl), by kernel_rfl, by kernel_rfl⟩
  | .next (_ + 1) _, _, h => by cases h
  | .out _ _, _, h => by cases h
theorem peaksOf_L42_7_go (ky : Nat) (cy : List D) (er : Bool) (ku : Nat) (cu : List D) (x0 : Nat) (x1 : List D) (x2 : Nat) (x3 : List D) (x4 : Int) (x5 : Int) (x6 : List D) (x7 : Nat) (x8 : List D) (x9 : Nat) (x10 : List D) (x11 : Nat) (x12 : List D) (x13 : Nat) (x14 : List D) (x15 : Nat) (x16 : List D) (x17 : List D) {q : Nat} {ds : List D} {j : Nat} {es : List D} (h : runR (peaksOf_L42_7_S ky cy er ku cu x0 x1 x2 x3 x4 x5 x6 x7 x8 x9 x10 x11 x12 x13 x14 x15 x16 x17) (.next q ds) = some (.out j es)) : Runs (ctx [21, 42] peaksOf_sp) Tabs peaksOf_L42_7_A (stateOf (peaksOf_L42_7_gs ky cy er ku cu x0 x1 x2 x3 x4 x5 x6 x7 x8 x9 x10 x11 x12 x13 x14 x15 x16 x17 (.next q ds))) (stateOf (peaksOf_L42_7_gs ky cy er ku cu x0 x1 x2 x3 x4 x5 x6 x7 x8 x9 x10 x11 x12 x13 x14 x15 x16 x17 (.out j es))) (peaksOf_L42_7_ax (.out j es)) ∧ (nxtOf (peaksOf_L42_7_gs ky cy er ku cu x0 x1 x2 x3 x4 x5 x6 x7 x8 x9 x10 x11 x12 x13 x14 x15 x16 x17 (.out j es)), lowGS (peaksOf_L42_7_gs ky cy er ku cu x0 x1 x2 x3 x4 x5 x6 x7 x8 x9 x10 x11 x12 x13 x14 x15 x16 x17 (.out j es))) = (peaksOf_L42_7_A.nx, peaksOf_L42_7_A.low) :=
  runs_of' (good true _ _) peaksOf_L42_7_ok (ax := peaksOf_L42_7_ax) (fun _ _ => rfl) (fun _ _ => axOf_end _) (peaksOf_L42_7_S_ok ky cy er ku cu x0 x1 x2 x3 x4 x5 x6 x7 x8 x9 x10 x11 x12 x13 x14 x15 x16 x17) h
theorem peaksOf_L42_7_in0 (ky : Nat) (cy : List D) (er : Bool) (ku : Nat) (cu : List D) (x0 : Nat) (x1 : List D) (x2 : Nat) (x3 : List D) (x4 : Int) (x5 : Int) (x6 : List D) (x7 : Nat) (x8 : List D) (x9 : Nat) (x10 : List D) (x11 : Nat) (x12 : List D) (x13 : Nat) (x14 : List D) (x15 : Nat) (x16 : List D) (x17 : List D) {es : List D} (h : runR (peaksOf_L42_7_S ky cy er ku cu x0 x1 x2 x3 x4 x5 x6 x7 x8 x9 x10 x11 x12 x13 x14 x15 x16 x17) (.next 0 [iD ((0 : Int)), .list (((ky : Int)).toNat) (x6)]) = some (.out 0 es)) : LoopC (loopAt Try.prog 42 1) (peaksOf_L42_7_E ky cy er ku cu x0 x1 x2 x3 x4 x5 x6 x7 x8 x9 x10 x11 x12 x13 x14 x15 x16 x17) 69 noFrame peaksOf_x42_7_0 es :=
  have r := peaksOf_L42_7_go ky cy er ku cu x0 x1 x2 x3 x4 x5 x6 x7 x8 x9 x10 x11 x12 x13 x14 x15 x16 x17 h
  loopin_as rfl (loop_in (l := peaksOf_L42_7_A) (E := (peaksOf_L42_7_E ky cy er ku cu x0 x1 x2 x3 x4 x5 x6 x7 x8 x9 x10 x11 x12 x13 x14 x15 x16 x17)) (S := stateOf (peaksOf_L42_7_gs ky cy er ku cu x0 x1 x2 x3 x4 x5 x6 x7 x8 x9 x10 x11 x12 x13 x14 x15 x16 x17 (.next 0 [iD ((0 : Int)), .list (((ky : Int)).toNat) (x6)]))) (ns := nsOf (peaksOf_L42_7_gs ky cy er ku cu x0 x1 x2 x3 x4 x5 x6 x7 x8 x9 x10 x11 x12 x13 x14 x15 x16 x17 (.next 0 [iD ((0 : Int)), .list (((ky : Int)).toNat) (x6)]))) peaksOf_L42_7_ok r.1 r.2 (by kernel_rfl) (by kernel_rfl) (by kernel_rfl) (by kernel_rfl))
def peaksOf_L42_2_E (ky : Nat) (cy : List D) (er : Bool) (ku : Nat) (cu : List D) (x0 : Nat) (x1 : List D) (x2 : Nat) (x3 : List D) (x4 : Int) (x5 : Int) (x6 : List D) (x7 : List D) (x8 : Nat) (x9 : List D) (x10 : Nat) (x11 : List D) (x12 : Nat) (x13 : List D) (x14 : Nat) (x15 : List D) (x16 : Nat) (x17 : List D) : List AV × AHeap := ([.agg [.bsl 8 0 (IntKind.i64.wrap ((ky : Int) + (1 : Int))).toNat (IntKind.i64.wrap ((ky : Int) + (1 : Int))).toNat, .bsl 9 0 ((ky : Int)).toNat ((ky : Int)).toNat], .dsl 45, .ptr 47 0, .pure (.tuple #[]), .pure (.tuple #[]), .pure (.tuple #[]), .pure (.tuple #[]), .dsl 45, .pure (.int .i64 (x16 : Int)), .pure (.int .i64 (0 : Int)), .pure (.tuple #[]), .pure (.tuple #[]), .pure (.tuple #[]), .pure (.tuple #[]), .pure (.tuple #[]), .pure (.tuple #[]), .pure (.tuple #[]), .pure (.tuple #[]), .pure (.tuple #[]), .pure (.tuple #[]), .pure (.tuple #[]), .pure (.tuple #[]), .pure (.tuple #[]), .pure (.tuple #[]), .pure (.tuple #[]), .pure (.tuple #[]), .pure (.tuple #[]), .pure (.tuple #[]), .pure (.tuple #[]), .pure (.tuple #[]), .pure (.tuple #[]), .pure (.tuple #[]), .pure (.tuple #[]), .pure (.tuple #[]), .pure (.tuple #[]), .pure (.tuple #[]), .pure (.tuple #[]), .pure (.tuple #[]), .pure (.tuple #[]), .pure (.tuple #[]), .pure (.tuple #[]), .pure (.tuple #[]), .pure (.tuple #[]), .pure (.tuple #[]), .pure (.tuple #[]), .pure (.tuple #[]), .pure (.tuple #[]), .pure (.tuple #[]), .pure (.tuple #[]), .pure (.tuple #[]), .pure (.tuple #[]), .pure (.tuple #[]), .pure (.tuple #[]), .pure (.tuple #[]), .pure (.tuple #[])], [(47, { cells := [.bsl 8 0 (IntKind.i64.wrap ((ky : Int) + (1 : Int))).toNat (IntKind.i64.wrap ((ky : Int) + (1 : Int))).toNat, .bsl 9 0 ((ky : Int)).toNat ((ky : Int)).toNat], opn := none, kind := .cells }), (46, { cells := [.dsl 43, .dsl 44], opn := none, kind := .cells }), (45, { cells := [], opn := none, kind := .deep x16 x17 }), (44, { cells := [], opn := none, kind := .deep x14 x15 }), (43, { cells := [], opn := none, kind := .deep x12 x13 }), (12, { cells := [], opn := none, kind := .deep x10 x11 }), (11, { cells := [], opn := none, kind := .deep x8 x9 }), (8, { cells := [], opn := none, kind := .big x6 }), (9, { cells := [], opn := none, kind := .big x7 }), (10, { cells := [.bsl 8 0 (IntKind.i64.wrap ((ky : Int) + (1 : Int))).toNat (IntKind.i64.wrap ((ky : Int) + (1 : Int))).toNat, .bsl 9 0 ((ky : Int)).toNat ((ky : Int)).toNat], opn := none, kind := .cells }), (7, { cells := [.pure (.int .i64 x4), .pure (.int .i64 x5)], opn := none, kind := .cells }), (6, { cells := [.dsl 11, .dsl 12], opn := none, kind := .cells }), (5, { cells := [], opn := none, kind := .deep x2 x3 }), (4, { cells := [], opn := none, kind := .deep x0 x1 }), (3, { cells := [.pure (.slice none 0 0), .pure (.slice none 0 0)], opn := none, kind := .cells }), (2, { cells := [.dsl 0, .pure (.bool er)], opn := none, kind := .cells }), (1, { cells := [], opn := none, kind := .deep ku cu }), (0, { cells := [], opn := none, kind := .deep ky cy })])
def peaksOf_L42_2_A : LoopAt := ⟨42, loopAt Try.prog 42 0, 48, 69, 8, noFrame⟩
theorem peaksOf_L42_2_ok : (peaksOf_L42_2_A).OK := ⟨by show 48 ≤ 69; decide, by show 8 ≤ 48; decide, by kernel_rfl, rfl⟩
def peaksOf_L42_2_gs (ky : Nat) (cy : List D) (er : Bool) (ku : Nat) (cu : List D) (x0 : Nat) (x1 : List D) (x2 : Nat) (x3 : List D) (x4 : Int) (x5 : Int) (x6 : List D) (x7 : List D) (x8 : Nat) (x9 : List D) (x10 : Nat) (x11 : List D) (x12 : Nat) (x13 : List D) (x14 : Nat) (x15 : List D) (x16 : Nat) (x17 : List D) : Go.Ev.Rd → Option GS
  | .next 0 ds => ghost [.val 9, .cmade 2 0] (4 :: (5 :: (List.range' 10 17))) (peaksOf_L42_2_E ky cy er ku cu x0 x1 x2 x3 x4 x5 x6 x7 x8 x9 x10 x11 x12 x13 x14 x15 x16 x17).1 (peaksOf_L42_2_E ky cy er ku cu x0 x1 x2 x3 x4 x5 x6 x7 x8 x9 x10 x11 x12 x13 x14 x15 x16 x17).2 48 ds
  | .out 0 ds => ghost peaksOf_x42_2_0.live peaksOf_x42_2_0.junk (peaksOf_L42_2_E ky cy er ku cu x0 x1 x2 x3 x4 x5 x6 x7 x8 x9 x10 x11 x12 x13 x14 x15 x16 x17).1 (peaksOf_L42_2_E ky cy er ku cu x0 x1 x2 x3 x4 x5 x6 x7 x8 x9 x10 x11 x12 x13 x14 x15 x16 x17).2 48 ds
  | _ => none
def peaksOf_L42_2_ex : Nat → Option Nat
  | 0 => peaksOf_x42_2_0.ex
  | _ => none
def peaksOf_L42_2_ax : Go.Ev.Rd → AX
  | .next _ _ => .normal
  | .out j _ => axOf (peaksOf_L42_2_ex j)
def peaksOf_L42_2_S0 (ky : Nat) (cy : List D) (er : Bool) (ku : Nat) (cu : List D) (x0 : Nat) (x1 : List D) (x2 : Nat) (x3 : List D) (x4 : Int) (x5 : Int) (x6 : List D) (x7 : List D) (x8 : Nat) (x9 : List D) (x10 : Nat) (x11 : List D) (x12 : Nat) (x13 : List D) (x14 : Nat) (x15 : List D) (x16 : Nat) (x17 : List D) (ds : List D) : Option Go.Ev.Rd := pullD (α := Int × Nat × (List D)) (some (.tup ds)) (fun d => ((D.vi (D.at d 0)), (D.ln (D.at d 1)), (D.lc (D.at d 1)))) (fun (s9, s2_0n, s2_0c) => .tup [iD s9, .list s2_0n s2_0c]) fun (s9, s2_0n, s2_0c) => ((if s9 < (x16 : Int) then guardP ((0 : Int) ≤ s9 ∧ s9.toNat < x16) (pullD (α := Int) (readD x17 (s9.toNat * 1) 1 false) (fun d => ((D.vi d))) (fun v0 => iD v0) fun v0 => (guardP ((0 : Int) ≤ s9 ∧ s9.toNat < (IntKind.i64.wrap ((ky : Int) + (1 : Int))).toNat) (pullD (α := Int) (readD s2_0c (0 + s9.toNat * 1) 1 false) (fun d => ((D.vi d))) (fun v1 => iD v1) fun v1 => (pullD (α := Int) (m_58 [iD v0]) (fun d => ((D.vi d))) (fun r2 => iD r2) fun r2 => (guardP (0 + s9.toNat * 1 + 1 ≤ s2_0c.length ∧ ∀ (u : D), u ∈ [dCell (.int .i64 (if r2 > v1 then r2 else v1))] → cellD u) (some (.next 0 [iD (IntKind.i64.wrap (s9 + (1 : Int))), .list (IntKind.i64.wrap ((ky : Int) + (1 : Int))).toNat (List.append (List.take (0 + s9.toNat * 1) s2_0c ++ [dCell (.int .i64 (if r2 > v1 then r2 else v1))]) (List.drop (0 + s9.toNat * 1 + [dCell (.int .i64 (if r2 > v1 then r2 else v1))].length) s2_0c))]))))))) else some (.out 0 [.list (IntKind.i64.wrap ((ky : Int) + (1 : Int))).toNat s2_0c])))
def peaksOf_L42_2_S (ky : Nat) (cy : List D) (er : Bool) (ku : Nat) (cu : List D) (x0 : Nat) (x1 : List D) (x2 : Nat) (x3 : List D) (x4 : Int) (x5 : Int) (x6 : List D) (x7 : List D) (x8 : Nat) (x9 : List D) (x10 : Nat) (x11 : List D) (x12 : Nat) (x13 : List D) (x14 : Nat) (x15 : List D) (x16 : Nat) (x17 : List D) : Go.Ev.Rd → Option Go.Ev.Rd
  | .next 0 ds => peaksOf_L42_2_S0 ky cy er ku cu x0 x1 x2 x3 x4 x5 x6 x7 x8 x9 x10 x11 x12 x13 x14 x15 x16 x17 ds
  | _ => none
theorem peaksOf_L42_2_S_ok (ky : Nat) (cy : List D) (er : Bool) (ku : Nat) (cu : List D) (x0 : Nat) (x1 : List D) (x2 : Nat) (x3 : List D) (x4 : Int) (x5 : Int) (x6 : List D) (x7 : List D) (x8 : Nat) (x9 : List D) (x10 : Nat) (x11 : List D) (x12 : Nat) (x13 : List D) (x14 : Nat) (x15 : List D) (x16 : Nat) (x17 : List D) : ∀ s_ t_, peaksOf_L42_2_S ky cy er ku cu x0 x1 x2 x3 x4 x5 x6 x7 x8 x9 x10 x11 x12 x13 x14 x15 x16 x17 s_ = some t_ → Step (ctx [21, 42] peaksOf_sp) Tabs peaksOf_L42_2_A (stateOf (peaksOf_L42_2_gs ky cy er ku cu x0 x1 x2 x3 x4 x5 x6 x7 x8 x9 x10 x11 x12 x13 x14 x15 x16 x17 s_)) (stateOf (peaksOf_L42_2_gs ky cy er ku cu x0 x1 x2 x3 x4 x5 x6 x7 x8 x9 x10 x11 x12 x13 x14 x15 x16 x17 t_)) (peaksOf_L42_2_ax t_) ∧ EndOK peaksOf_L42_2_A.nx peaksOf_L42_2_A.low (peaksOf_L42_2_gs ky cy er ku cu x0 x1 x2 x3 x4 x5 x6 x7 x8 x9 x10 x11 x12 x13 x14 x15 x16 x17) t_
  | .next 0 ds, t_, h => by
    have h_ : peaksOf_L42_2_S0 ky cy er ku cu x0 x1 x2 x3 x4 x5 x6 x7 x8 x9 x10 x11 x12 x13 x14 x15 x16 x17 ds = some t_ := h
    clear h
    unfold peaksOf_L42_2_S0 at h_
    obtain ⟨⟨s9, s2_0n, s2_0c⟩, e0, h0⟩ := pullD_elim h_
    clear h_
    obtain rfl := tup_inj e0
    by_cases b1_ : s9 < (x16 : Int)
    · have h2_ := (if_pos b1_).symm.trans h0
      obtain ⟨f3_, h4_⟩ := guardP_elim h2_
      obtain ⟨v0, f5_, h6_⟩ := pullD_elim h4_
      replace f5_ := readD_elim f5_
      obtain ⟨f7_, h8_⟩ := guardP_elim h6_
      obtain ⟨v1, f9_, h10_⟩ := pullD_elim h8_
      replace f9_ := readD_elim f9_
      obtain ⟨r2, f11_, h12_⟩ := pullD_elim h10_
      replace f11_ := m_58_ok f11_
      obtain ⟨f13_, h14_⟩ := guardP_elim h12_
      obtain rfl := Option.some.inj h14_
      exact ⟨step_pc 3000 (bT 1 []) [iD v0, iD v1, iD r2] [c_d b1_, c_f f3_, c_f f5_, c_f f7_, c_f f9_, c_f f7_, c_f f13_] [k_c f11_] _ rfl (by kernel_rfl) (by kernel_rfl) (by kernel_rfl) (by kernel_rfl) (by kernel_rfl) (by kernel_rfl), trivial⟩
    have h2_ := (if_neg b1_).symm.trans h0
    obtain rfl := Option.some.inj h2_
    exact ⟨step_pc 3000 (bF 1 []) [] [c_n b1_] [] _ rfl (by kernel_rfl) (by kernel_rfl) (by kernel_rfl) (by kernel_rfl) (by kernel_rfl) (by kernel_rfl), by kernel_rfl, by kernel_rfl⟩
  | .next (_ + 1) _, _, h => by cases h
  | .out _ _, _, h => by cases h
theorem peaksOf_L42_2_go (ky : Nat) (cy : List D) (er : Bool) (ku : Nat) (cu : List D) (x0 : Nat) (x1 : List D) (x2 : Nat) (x3 : List D) (x4 : Int) (x5 : Int) (x6 : List D) (x7 : List D) (x8 : Nat) (x9 : List D) (x10 : Nat) (x11 : List D) (x12 : Nat) (x13 : List D) (x14 : Nat) (x15 : List D) (x16 : Nat) (x17 : List D) {q : Nat} {ds : List D} {j : Nat} {es : List D} (h : runR (peaksOf_L42_2_S ky cy er ku cu x0 x1 x2 x3 x4 x5 x6 x7 x8 x9 x10 x11 x12 x13 x14 x15 x16 x17) (.next q ds) = some (.out j es)) : Runs (ctx [21, 42] peaksOf_sp) Tabs peaksOf_L42_2_A (stateOf (peaksOf_L42_2_gs ky cy er ku cu x0 x1 x2 x3 x4 x5 x6 x7 x8 x9 x10 x11 x12 x13 x14 x15 x16 x17 (.next q ds))) (stateOf (peaksOf_L42_2_gs ky cy er ku cu x0 x1 x2 x3 x4 x5 x6 x7 x8 x9 x10 x11 x12 x13 x14 x15 x16 x17 (.out j es))) (peaksOf_L42_2_ax (.out j es)) ∧ (nxtOf (peaksOf_L42_2_gs ky cy er ku cu x0 x1 x2 x3 x4 x5 x6 x7 x8 x9 x10 x11 x12 x13 x14 x15 x16 x17 (.out j es)), lowGS (peaksOf_L42_2_gs ky cy er ku cu x0 x1 x2 x3 x4 x5 x6 x7 x8 x9 x10 x11 x12 x13 x14 x15 x16 x17 (.out j es))) = (peaksOf_L42_2_A.nx, peaksOf_L42_2_A.low) :=
  runs_of' (good true _ _) peaksOf_L42_2_ok (ax := peaksOf_L42_2_ax) (fun _ _ => rfl) (fun _ _ => axOf_end _) (peaksOf_L42_2_S_ok ky cy er ku cu x0 x1 x2 x3 x4 x5 x6 x7 x8 x9 x10 x11 x12 x13 x14 x15 x16 x17) h
theorem peaksOf_L42_2_in0 (ky : Nat) (cy : List D) (er : Bool) (ku : Nat) (cu : List D) (x0 : Nat) (x1 : List D) (x2 : Nat) (x3 : List D) (x4 : Int) (x5 : Int) (x6 : List D) (x7 : List D) (x8 : Nat) (x9 : List D) (x10 : Nat) (x11 : List D) (x12 : Nat) (x13 : List D) (x14 : Nat) (x15 : List D) (x16 : Nat) (x17 : List D) {es : List D} (h : runR (peaksOf_L42_2_S ky cy er ku cu x0 x1 x2 x3 x4 x5 x6 x7 x8 x9 x10 x11 x12 x13 x14 x15 x16 x17) (.next 0 [iD ((0 : Int)), .list ((IntKind.i64.wrap ((ky : Int) + (1 : Int))).toNat) (x6)]) = some (.out 0 es)) : LoopC (loopAt Try.prog 42 0) (peaksOf_L42_2_E ky cy er ku cu x0 x1 x2 x3 x4 x5 x6 x7 x8 x9 x10 x11 x12 x13 x14 x15 x16 x17) 48 noFrame peaksOf_x42_2_0 es :=
  have r := peaksOf_L42_2_go ky cy er ku cu x0 x1 x2 x3 x4 x5 x6 x7 x8 x9 x10 x11 x12 x13 x14 x15 x16 x17 h
  loopin_as rfl (loop_in (l := peaksOf_L42_2_A) (E := (peaksOf_L42_2_E ky cy er ku cu x0 x1 x2 x3 x4 x5 x6 x7 x8 x9 x10 x11 x12 x13 x14 x15 x16 x17)) (S := stateOf (peaksOf_L42_2_gs ky cy er ku cu x0 x1 x2 x3 x4 x5 x6 x7 x8 x9 x10 x11 x12 x13 x14 x15 x16 x17 (.next 0 [iD ((0 : Int)), .list ((IntKind.i64.wrap ((ky : Int) + (1 : Int))).toNat) (x6)]))) (ns := nsOf (peaksOf_L42_2_gs ky cy er ku cu x0 x1 x2 x3 x4 x5 x6 x7 x8 x9 x10 x11 x12 x13 x14 x15 x16 x17 (.next 0 [iD ((0 : Int)), .list ((IntKind.i64.wrap ((ky : Int) + (1 : Int))).toNat) (x6)]))) peaksOf_L42_2_ok r.1 r.2 (by kernel_rfl) (by kernel_rfl) (by kernel_rfl) (by kernel_rfl))
def peaksOf_L8_E (ky : Nat) (cy : List D) (er : Bool) (ku : Nat) (cu : List D) (x0 : Nat) (x1 : List D) (x2 : Nat) (x3 : List D) (x4 : Int) (x5 : Int) (x6 : Int) : List AV × AHeap := ([.agg [.dsl 0, .pure (.bool er)], .dsl 1, .ptr 2 0, .pure (.tuple #[]), .ptr 3 0, .pure (.int .i64 (0 : Int)), .ptr 6 0, .pure (.int .i64 x6), .pure (.int .i64 (ky : Int)), .ptr 10 0, .pure (.tuple #[]), .pure (.tuple #[]), .pure (.tuple #[]), .pure (.tuple #[]), .pure (.tuple #[]), .tuple [.agg [.dsl 4, .dsl 5], .pure (.int .i64 x4)], .agg [.dsl 0, .pure (.bool er)], .tuple [.agg [.dsl 4, .dsl 5], .pure (.int .i64 x4)], .agg [.dsl 4, .dsl 5], .pure (.int .i64 x4), .pure (.int .i64 x4), .dsl 1, .pure (.int .i64 (ku : Int)), .pure (.int .i64 x5), .sl 7 0 2 2, .pure (.int .i64 x6), .pure (.int .i64 x6), .pure (.bool (x6 != (0 : Int))), .pure (.tuple #[]), .pure (.tuple #[]), .ptr 2 0, .dsl 0, .pure (.int .i64 (ky : Int)), .pure (.int .i64 (ky : Int)), .pure (.int .i64 (IntKind.i64.wrap ((ky : Int) + (1 : Int)))), .bsl 8 0 (IntKind.i64.wrap ((ky : Int) + (1 : Int))).toNat (IntKind.i64.wrap ((ky : Int) + (1 : Int))).toNat, .pure (.int .i64 (ky : Int)), .bsl 9 0 ((ky : Int)).toNat ((ky : Int)).toNat, .agg [.bsl 8 0 (IntKind.i64.wrap ((ky : Int) + (1 : Int))).toNat (IntKind.i64.wrap ((ky : Int) + (1 : Int))).toNat, .bsl 9 0 ((ky : Int)).toNat ((ky : Int)).toNat], .dsl 1, .pure (.int .i64 (ku : Int)), .pure (.int .i64 (0 : Int)), .pure (.tuple #[]), .pure (.tuple #[]), .pure (.tuple #[]), .pure (.tuple #[]), .pure (.tuple #[]), .pure (.tuple #[]), .pure (.tuple #[]), .pure (.tuple #[]), .pure (.tuple #[]), .pure (.tuple #[]), .pure (.tuple #[]), .pure (.tuple #[]), .pure (.tuple #[]), .pure (.tuple #[]), .pure (.tuple #[]), .pure (.tuple #[]), .pure (.tuple #[]), .pure (.tuple #[]), .pure (.tuple #[]), .pure (.tuple #[]), .pure (.tuple #[])], [(8, { cells := [], opn := none, kind := .big (List.map dCell (List.replicate (IntKind.i64.wrap ((ky : Int) + (1 : Int))).toNat (Value.int .i64 (0 : Int)).cells.toList).flatten) }), (9, { cells := [], opn := none, kind := .big (List.map dCell (List.replicate ((ky : Int)).toNat (Value.int .i64 (0 : Int)).cells.toList).flatten) }), (10, { cells := [.bsl 8 0 (IntKind.i64.wrap ((ky : Int) + (1 : Int))).toNat (IntKind.i64.wrap ((ky : Int) + (1 : Int))).toNat, .bsl 9 0 ((ky : Int)).toNat ((ky : Int)).toNat], opn := none, kind := .cells }), (7, { cells := [.pure (.int .i64 x4), .pure (.int .i64 x5)], opn := none, kind := .cells }), (6, { cells := [.dsl 4, .dsl 5], opn := none, kind := .cells }), (5, { cells := [], opn := none, kind := .deep x2 x3 }), (4, { cells := [], opn := none, kind := .deep x0 x1 }), (3, { cells := [.pure (.slice none 0 0), .pure (.slice none 0 0)], opn := none, kind := .cells }), (2, { cells := [.dsl 0, .pure (.bool er)], opn := none, kind := .cells }), (1, { cells := [], opn := none, kind := .deep ku cu }), (0, { cells := [], opn := none, kind := .deep ky cy })])
def peaksOf_L8_A : LoopAt := ⟨21, loopAt Try.prog 21 0, 11, 43, 3, noFrame⟩
theorem peaksOf_L8_ok : (peaksOf_L8_A).OK := ⟨by show 11 ≤ 43; decide, by show 3 ≤ 11; decide, by kernel_rfl, rfl⟩
def peaksOf_L8_gs (ky : Nat) (cy : List D) (er : Bool) (ku : Nat) (cu : List D) (x0 : Nat) (x1 : List D) (x2 : Nat) (x3 : List D) (x4 : Int) (x5 : Int) (x6 : Int) : Go.Ev.Rd → Option GS
  | .next 0 ds => ghost [.val 41, .cmade 9 0, .cmade 9 1, .cval 6 0, .cval 6 1, .cnil 4 0, .cnil 4 1] (5 :: (List.range' 11 4 ++ (List.range' 42 20))) (peaksOf_L8_E ky cy er ku cu x0 x1 x2 x3 x4 x5 x6).1 (peaksOf_L8_E ky cy er ku cu x0 x1 x2 x3 x4 x5 x6).2 11 ds
  | .out 0 ds => ghost peaksOf_x8_0.live peaksOf_x8_0.junk (peaksOf_L8_E ky cy er ku cu x0 x1 x2 x3 x4 x5 x6).1 (peaksOf_L8_E ky cy er ku cu x0 x1 x2 x3 x4 x5 x6).2 11 ds
  | .out 1 ds => ghost peaksOf_x8_1.live peaksOf_x8_1.junk (peaksOf_L8_E ky cy er ku cu x0 x1 x2 x3 x4 x5 x6).1 (peaksOf_L8_E ky cy er ku cu x0 x1 x2 x3 x4 x5 x6).2 11 ds
  | _ => none
def peaksOf_L8_ex : Nat → Option Nat
  | 0 => peaksOf_x8_0.ex
  | 1 => peaksOf_x8_1.ex
  | _ => none
def peaksOf_L8_ax : Go.Ev.Rd → AX
  | .next _ _ => .normal
  | .out j _ => axOf (peaksOf_L8_ex j)
def peaksOf_L8_S0 (ky : Nat) (cy : List D) (er : Bool) (ku : Nat) (cu : List D) (x0 : Nat) (x1 : List D) (x2 : Nat) (x3 : List D) (x4 : Int) (x5 : Int) (x6 : Int) (ds : List D) : Option Go.Ev.Rd := pullD (α := Int × Nat × (List D) × Nat × (List D) × Nat × (List D) × Nat × (List D)) (some (.tup ds)) (fun d => ((D.vi (D.at d 0)), (D.ln (D.at d 1)), (D.lc (D.at d 1)), (D.ln (D.at d 2)), (D.lc (D.at d 2)), (D.ln (D.at d 3)), (D.lc (D.at d 3)), (D.ln (D.at d 4)), (D.lc (D.at d 4)))) (fun (s41, s9_0n, s9_0c, s9_1n, s9_1c, s6_0n, s6_0c, s6_1n, s6_1c) => .tup [iD s41, .list s9_0n s9_0c, .list s9_1n s9_1c, .list s6_0n s6_0c, .list s6_1n s6_1c, .one (.tuple #[]), .one (.tuple #[])]) fun (s41, s9_0n, s9_0c, s9_1n, s9_1c, s6_0n, s6_0c, s6_1n, s6_1c) => ((if s41 < (ku : Int) then guardP ((0 : Int) ≤ s41 ∧ s41.toNat < ku) (pullD (α := Int) (readD cu (s41.toNat * 1) 1 false) (fun d => ((D.vi d))) (fun v0 => iD v0) fun v0 => (pullD (α := Nat × (List D) × Nat × (List D) × Nat × (List D) × Int) (m_10 [.agg [.list ky cy, .one (.bool er)], .agg [.list s6_0n s6_0c, .list s6_1n s6_1c], iD v0]) (fun d => ((D.ln (D.at (D.at d 0) 0)), (D.lc (D.at (D.at d 0) 0)), (D.ln (D.at (D.at d 0) 1)), (D.lc (D.at (D.at d 0) 1)), (D.ln (D.at d 1)), (D.lc (D.at d 1)), (D.vi (D.at d 2)))) (fun (k1, c2, k3, c4, k5, c6, r7) => .tup [.agg [.list k1 c2, .list k3 c4], .list k5 c6, iD r7]) fun (k1, c2, k3, c4, k5, c6, r7) => ((if r7 ≠ (0 : Int) then some (.out 1 [iD r7, .list (IntKind.i64.wrap ((ky : Int) + (1 : Int))).toNat s9_0c, .list ((ky : Int)).toNat s9_1c, .list s6_0n s6_0c, .list s6_1n s6_1c, .one (.tuple #[]), .one (.tuple #[])]) else bindL (runR (peaksOf_L42_2_S ky cy er ku cu x0 x1 x2 x3 x4 x5 s9_0c s9_1c s6_0n s6_0c s6_1n s6_1c k1 c2 k3 c4 k5 c6) (.next 0 [iD ((0 : Int)), .list ((IntKind.i64.wrap ((ky : Int) + (1 : Int))).toNat) (s9_0c)])) fun j ds => (if j = 0 then pullD (α := Nat × (List D)) (some (.tup ds)) (fun d => ((D.ln (D.at d 0)), (D.lc (D.at d 0)))) (fun (k8, c9) => .tup [.list k8 c9]) fun (k8, c9) => (bindL (runR (peaksOf_L42_7_S ky cy er ku cu x0 x1 x2 x3 x4 x5 s9_1c s6_0n s6_0c s6_1n s6_1c k1 c2 k3 c4 k5 c6 c9) (.next 0 [iD ((0 : Int)), .list (((ky : Int)).toNat) (s9_1c)])) fun j ds => (if j = 0 then pullD (α := Nat × (List D)) (some (.tup ds)) (fun d => ((D.ln (D.at d 0)), (D.lc (D.at d 0)))) (fun (k10, c11) => .tup [.list k10 c11]) fun (k10, c11) => (some (.next 0 [iD (IntKind.i64.wrap (s41 + (1 : Int))), .list (IntKind.i64.wrap ((ky : Int) + (1 : Int))).toNat c9, .list ((ky : Int)).toNat c11, .list k1 c2, .list k3 c4, .one (.tuple #[]), .one (.tuple #[])])) else none)) else none))))) else some (.out 0 [.list (IntKind.i64.wrap ((ky : Int) + (1 : Int))).toNat s9_0c, .list ((ky : Int)).toNat s9_1c, .list s6_0n s6_0c, .list s6_1n s6_1c, .one (.tuple #[]), .one (.tuple #[])])))
def peaksOf_L8_S (ky : Nat) (cy : List D) (er : Bool) (ku : Nat) (cu : List D) (x0 : Nat) (x1 : List D) (x2 : Nat) (x3 : List D) (x4 : Int) (x5 : Int) (x6 : Int) : Go.Ev.Rd → Option Go.Ev.Rd
  | .next 0 ds => peaksOf_L8_S0 ky cy er ku cu x0 x1 x2 x3 x4 x5 x6 ds
  | _ => none
theorem peaksOf_L8_S_ok (ky : Nat) (cy : List D) (er : Bool) (ku : Nat) (cu : List D) (x0 : Nat) (x1 : List D) (x2 : Nat) (x3 : List D) (x4 : Int) (x5 : Int) (x6 : Int) : ∀ s_ t_, peaksOf_L8_S ky cy er ku cu x0 x1 x2 x3 x4 x5 x6 s_ = some t_ → Step (ctx [21, 42] peaksOf_sp) Tabs peaksOf_L8_A (stateOf (peaksOf_L8_gs ky cy er ku cu x0 x1 x2 x3 x4 x5 x6 s_)) (stateOf (peaksOf_L8_gs ky cy er ku cu x0 x1 x2 x3 x4 x5 x6 t_)) (peaksOf_L8_ax t_) ∧ EndOK peaksOf_L8_A.nx peaksOf_L8_A.low (peaksOf_L8_gs ky cy er ku cu x0 x1 x2 x3 x4 x5 x6) t_
  | .next 0 ds, t_, h => by
    have h_ : peaksOf_L8_S0 ky cy er ku cu x0 x1 x2 x3 x4 x5 x6 ds = some t_ := h
    clear h
    unfold peaksOf_L8_S0 at h_
    obtain ⟨⟨s41, s9_0n, s9_0c, s9_1n, s9_1c, s6_0n, s6_0c, s6_1n, s6_1c⟩, e0, h0⟩ := pullD_elim h_
    clear h_
    obtain rfl := tup_inj e0
    by_cases b1_ : s41 < (ku : Int)
    · have h2_ := (if_pos b1_).symm.trans h0
      obtain ⟨f3_, h4_⟩ := guardP_elim h2_
      obtain ⟨v0, f5_, h6_⟩ := pullD_elim h4_
      replace f5_ := readD_elim f5_
      obtain ⟨⟨k1, c2, k3, c4, k5, c6, r7⟩, f7_, h8_⟩ := pullD_elim h6_
      replace f7_ := m_10_ok f7_
      by_cases b9_ : r7 ≠ (0 : Int)
      · have h10_ := (if_pos b9_).symm.trans h8_
        obtain rfl := Option.some.inj h10_
        exact ⟨step_pc 3000 (bT 2 []) [iD v0, .tup [.agg [.list k1 c2, .list k3 c4], .list k5 c6, iD r7]] [c_d b1_, c_f f3_, c_f f5_, c_b b9_] [k_c f7_] _ rfl (by kernel_rfl) (by kernel_rfl) (by kernel_rfl) (by kernel_rfl) (by kernel_rfl) (by kernel_rfl), by kernel_rfl, by kernel_rfl⟩
      have h10_ := (if_neg b9_).symm.trans h8_
      have b11_ : r7 = (0 : Int) := by first | exact b9_ | simpa using b9_
      obtain ⟨j, ds, e12_, h13_⟩ := bindL_elim h10_
      by_cases j14_ : j = 0
      · have h17_ := (if_pos j14_).symm.trans h13_
        clear h13_
        subst j14_
        obtain ⟨⟨k8, c9⟩, e15_, h18_⟩ := pullD_elim h17_
        clear h17_
        obtain rfl := tup_inj e15_
        have k16_ := peaksOf_L42_2_in0 ky cy er ku cu x0 x1 x2 x3 x4 x5 s9_0c s9_1c s6_0n s6_0c s6_1n s6_1c k1 c2 k3 c4 k5 c6 e12_
        obtain ⟨j, ds, e19_, h20_⟩ := bindL_elim h18_
        by_cases j21_ : j = 0
        · have h24_ := (if_pos j21_).symm.trans h20_
          clear h20_
          subst j21_
          obtain ⟨⟨k10, c11⟩, e22_, h25_⟩ := pullD_elim h24_
          clear h24_
          obtain rfl := tup_inj e22_
          have k23_ := peaksOf_L42_7_in0 ky cy er ku cu x0 x1 x2 x3 x4 x5 s9_1c s6_0n s6_0c s6_1n s6_1c k1 c2 k3 c4 k5 c6 c9 e19_
          obtain rfl := Option.some.inj h25_
          exact ⟨step_pc 3000 (bT 1 (bF 1 [])) [iD v0, .tup [.agg [.list k1 c2, .list k3 c4], .list k5 c6, iD r7], .tup [iD (Int.ofNat 0), .list k8 c9], .tup [iD (Int.ofNat 0), .list k10 c11]] [c_d b1_, c_f f3_, c_f f5_, c_bn b11_] [k_c f7_, k_l k16_ [] [.tup [iD (Int.ofNat 0), .list k8 c9], .tup [iD (Int.ofNat 0), .list k10 c11]] [.tup [iD (Int.ofNat 0), .list k10 c11]], k_l k23_ [] [.tup [iD (Int.ofNat 0), .list k10 c11]] []] _ rfl (by kernel_rfl) (by kernel_rfl) (by kernel_rfl) (by kernel_rfl) (by kernel_rfl) (by kernel_rfl), trivial⟩
        have h26_ := (if_neg j21_).symm.trans h20_
        clear h20_
        cases h26_
      have h27_ := (if_neg j14_).symm.trans h13_
      clear h13_
      cases h27_
    have h2_ := (if_neg b1_).symm.trans h0
    obtain rfl := Option.some.inj h2_
    exact ⟨step_pc 3000 (bF 1 []) [] [c_n b1_] [] _ rfl (by kernel_rfl) (by kernel_rfl) (by kernel_rfl) (by kernel_rfl) (by kernel_rfl) (by kernel_rfl), by kernel_rfl, by kernel_rfl⟩
  | .next (_ + 1) _, _, h => by cases h
  | .out _ _, _, h => by cases h
theorem peaksOf_L8_go (ky : Nat) (cy : List D) (er : Bool) (ku : Nat) (cu : List D) (x0 : Nat) (x1 : List D) (x2 : Nat) (x3 : List D) (x4 : Int) (x5 : Int) (x6 : Int) {q : Nat} {ds : List D} {j : Nat} {es : List D} (h : runR (peaksOf_L8_S ky cy er ku cu x0 x1 x2 x3 x4 x5 x6) (.next q ds) = some (.out j es)) : Runs (ctx [21, 42] peaksOf_sp) Tabs peaksOf_L8_A (stateOf (peaksOf_L8_gs ky cy er ku cu x0 x1 x2 x3 x4 x5 x6 (.next q ds))) (stateOf (peaksOf_L8_gs ky cy er ku cu x0 x1 x2 x3 x4 x5 x6 (.out j es))) (peaksOf_L8_ax (.out j es)) ∧ (nxtOf (peaksOf_L8_gs ky cy er ku cu x0 x1 x2 x3 x4 x5 x6 (.out j es)), lowGS (peaksOf_L8_gs ky cy er ku cu x0 x1 x2 x3 x4 x5 x6 (.out j es))) = (peaksOf_L8_A.nx, peaksOf_L8_A.low) :=
  runs_of' (good true _ _) peaksOf_L8_ok (ax := peaksOf_L8_ax) (fun _ _ => rfl) (fun _ _ => axOf_end _) (peaksOf_L8_S_ok ky cy er ku cu x0 x1 x2 x3 x4 x5 x6) h
theorem peaksOf_L8_in0 (ky : Nat) (cy : List D) (er : Bool) (ku : Nat) (cu : List D) (x0 : Nat) (x1 : List D) (x2 : Nat) (x3 : List D) (x4 : Int) (x5 : Int) (x6 : Int) {es : List D} (h : runR (peaksOf_L8_S ky cy er ku cu x0 x1 x2 x3 x4 x5 x6) (.next 0 [iD ((0 : Int)), .list ((IntKind.i64.wrap ((ky : Int) + (1 : Int))).toNat) ((List.map dCell (List.replicate (IntKind.i64.wrap ((ky : Int) + (1 : Int))).toNat (Value.int .i64 (0 : Int)).cells.toList).flatten)), .list (((ky : Int)).toNat) ((List.map dCell (List.replicate ((ky : Int)).toNat (Value.int .i64 (0 : Int)).cells.toList).flatten)), .list (x0) (x1), .list (x2) (x3), .one (.tuple #[]), .one (.tuple #[])]) = some (.out 0 es)) : LoopC (loopAt Try.prog 21 0) (peaksOf_L8_E ky cy er ku cu x0 x1 x2 x3 x4 x5 x6) 11 noFrame peaksOf_x8_0 es :=
  have r := peaksOf_L8_go ky cy er ku cu x0 x1 x2 x3 x4 x5 x6 h
  loopin_as rfl (loop_in (l := peaksOf_L8_A) (E := (peaksOf_L8_E ky cy er ku cu x0 x1 x2 x3 x4 x5 x6)) (S := stateOf (peaksOf_L8_gs ky cy er ku cu x0 x1 x2 x3 x4 x5 x6 (.next 0 [iD ((0 : Int)), .list ((IntKind.i64.wrap ((ky : Int) + (1 : Int))).toNat) ((List.map dCell (List.replicate (IntKind.i64.wrap ((ky : Int) + (1 : Int))).toNat (Value.int .i64 (0 : Int)).cells.toList).flatten)), .list (((ky : Int)).toNat) ((List.map dCell (List.replicate ((ky : Int)).toNat (Value.int .i64 (0 : Int)).cells.toList).flatten)), .list (x0) (x1), .list (x2) (x3), .one (.tuple #[]), .one (.tuple #[])]))) (ns := nsOf (peaksOf_L8_gs ky cy er ku cu x0 x1 x2 x3 x4 x5 x6 (.next 0 [iD ((0 : Int)), .list ((IntKind.i64.wrap ((ky : Int) + (1 : Int))).toNat) ((List.map dCell (List.replicate (IntKind.i64.wrap ((ky : Int) + (1 : Int))).toNat (Value.int .i64 (0 : Int)).cells.toList).flatten)), .list (((ky : Int)).toNat) ((List.map dCell (List.replicate ((ky : Int)).toNat (Value.int .i64 (0 : Int)).cells.toList).flatten)), .list (x0) (x1), .list (x2) (x3), .one (.tuple #[]), .one (.tuple #[])]))) peaksOf_L8_ok r.1 r.2 (by kernel_rfl) (by kernel_rfl) (by kernel_rfl) (by kernel_rfl))
theorem peaksOf_L8_in1 (ky : Nat) (cy : List D) (er : Bool) (ku : Nat) (cu : List D) (x0 : Nat) (x1 : List D) (x2 : Nat) (x3 : List D) (x4 : Int) (x5 : Int) (x6 : Int) {es : List D} (h : runR (peaksOf_L8_S ky cy er ku cu x0 x1 x2 x3 x4 x5 x6) (.next 0 [iD ((0 : Int)), .list ((IntKind.i64.wrap ((ky : Int) + (1 : Int))).toNat) ((List.map dCell (List.replicate (IntKind.i64.wrap ((ky : Int) + (1 : Int))).toNat (Value.int .i64 (0 : Int)).cells.toList).flatten)), .list (((ky : Int)).toNat) ((List.map dCell (List.replicate ((ky : Int)).toNat (Value.int .i64 (0 : Int)).cells.toList).flatten)), .list (x0) (x1), .list (x2) (x3), .one (.tuple #[]), .one (.tuple #[])]) = some (.out 1 es)) : LoopC (loopAt Try.prog 21 0) (peaksOf_L8_E ky cy er ku cu x0 x1 x2 x3 x4 x5 x6) 11 noFrame peaksOf_x8_1 es :=
  have r := peaksOf_L8_go ky cy er ku cu x0 x1 x2 x3 x4 x5 x6 h
  loopin_as rfl (loop_in (l := peaksOf_L8_A) (E := (peaksOf_L8_E ky cy er ku cu x0 x1 x2 x3 x4 x5 x6)) (S := stateOf (peaksOf_L8_gs ky cy er ku cu x0 x1 x2 x3 x4 x5 x6 (.next 0 [iD ((0 : Int)), .list ((IntKind.i64.wrap ((ky : Int) + (1 : Int))).toNat) ((List.map dCell (List.replicate (IntKind.i64.wrap ((ky : Int) + (1 : Int))).toNat (Value.int .i64 (0 : Int)).cells.toList).flatten)), .list (((ky : Int)).toNat) ((List.map dCell (List.replicate ((ky : Int)).toNat (Value.int .i64 (0 : Int)).cells.toList).flatten)), .list (x0) (x1), .list (x2) (x3), .one (.tuple #[]), .one (.tuple #[])]))) (ns := nsOf (peaksOf_L8_gs ky cy er ku cu x0 x1 x2 x3 x4 x5 x6 (.next 0 [iD ((0 : Int)), .list ((IntKind.i64.wrap ((ky : Int) + (1 : Int))).toNat) ((List.map dCell (List.replicate (IntKind.i64.wrap ((ky : Int) + (1 : Int))).toNat (Value.int .i64 (0 : Int)).cells.toList).flatten)), .list (((ky : Int)).toNat) ((List.map dCell (List.replicate ((ky : Int)).toNat (Value.int .i64 (0 : Int)).cells.toList).flatten)), .list (x0) (x1), .list (x2) (x3), .one (.tuple #[]), .one (.tuple #[])]))) peaksOf_L8_ok r.1 r.2 (by kernel_rfl) (by kernel_rfl) (by kernel_rfl) (by kernel_rfl))
def peaksOf_M (ky : Nat) (cy : List D) (er : Bool) (ku : Nat) (cu : List D) : Option D := pullD (α := Nat × (List D) × Nat × (List D) × Int) (m_8 [.agg [.list ky cy, .one (.bool er)]]) (fun d => ((D.ln (D.at (D.at d 0) 0)), (D.lc (D.at (D.at d 0) 0)), (D.ln (D.at (D.at d 0) 1)), (D.lc (D.at (D.at d 0) 1)), (D.vi (D.at d 1)))) (fun (k0, c1, k2, c3, r4) => .tup [.agg [.list k0 c1, .list k2 c3], iD r4]) fun (k0, c1, k2, c3, r4) => (pullD (α := Int) (m_38 [iD (ku : Int), iD (0 : Int), iD (200 : Int)]) (fun d => ((D.vi d))) (fun r5 => iD r5) fun r5 => (pullD (α := Int) (m_35 [.list 2 [iD r4, iD r5]]) (fun d => ((D.vi d))) (fun r6 => iD r6) fun r6 => ((if r6 ≠ (0 : Int) then some (.tup [.agg [.list 0 [], .list 0 []], iD r6]) else guardP ((0 : Int) ≤ IntKind.i64.wrap ((ky : Int) + (1 : Int)) ∧ IntKind.i64.wrap ((ky : Int) + (1 : Int)) ≤ IntKind.i64.wrap ((ky : Int) + (1 : Int)) ∧ 8 * (IntKind.i64.wrap ((ky : Int) + (1 : Int))).toNat ≤ 140737488355328 ∧ (IntKind.i64.wrap ((ky : Int) + (1 : Int))).toNat ≤ 140737488355328) (guardP ((0 : Int) ≤ (ky : Int) ∧ (ky : Int) ≤ (ky : Int) ∧ 8 * ((ky : Int)).toNat ≤ 140737488355328 ∧ ((ky : Int)).toNat ≤ 140737488355328) (bindL (runR (peaksOf_L8_S ky cy er ku cu k0 c1 k2 c3 r4 r5 r6) (.next 0 [iD ((0 : Int)), .list ((IntKind.i64.wrap ((ky : Int) + (1 : Int))).toNat) ((List.map dCell (List.replicate (IntKind.i64.wrap ((ky : Int) + (1 : Int))).toNat (Value.int .i64 (0 : Int)).cells.toList).flatten)), .list (((ky : Int)).toNat) ((List.map dCell (List.replicate ((ky : Int)).toNat (Value.int .i64 (0 : Int)).cells.toList).flatten)), .list (k0) (c1), .list (k2) (c3), .one (.tuple #[]), .one (.tuple #[])])) fun j ds => (if j = 0 then pullD (α := Nat × (List D) × Nat × (List D) × Nat × (List D) × Nat × (List D)) (some (.tup ds)) (fun d => ((D.ln (D.at d 0)), (D.lc (D.at d 0)), (D.ln (D.at d 1)), (D.lc (D.at d 1)), (D.ln (D.at d 2)), (D.lc (D.at d 2)), (D.ln (D.at d 3)), (D.lc (D.at d 3)))) (fun (k7, c8, k9, c10, k11, c12, k13, c14) => .tup [.list k7 c8, .list k9 c10, .list k11 c12, .list k13 c14, .one (.tuple #[]), .one (.tuple #[])]) fun (k7, c8, k9, c10, k11, c12, k13, c14) => (guardP (((ky : Int)).toNat ≤ ((ky : Int)).toNat) (guardP ((IntKind.i64.wrap ((ky : Int) + (1 : Int))).toNat ≤ (IntKind.i64.wrap ((ky : Int) + (1 : Int))).toNat) (some (.tup [.agg [.list (IntKind.i64.wrap ((ky : Int) + (1 : Int))).toNat c8, .list ((ky : Int)).toNat c10], iD (0 : Int)])))) else if j = 1 then pullD (α := Int × Nat × (List D) × Nat × (List D) × Nat × (List D) × Nat × (List D)) (some (.tup ds)) (fun d => ((D.vi (D.at d 0)), (D.ln (D.at d 1)), (D.lc (D.at d 1)), (D.ln (D.at d 2)), (D.lc (D.at d 2)), (D.ln (D.at d 3)), (D.lc (D.at d 3)), (D.ln (D.at d 4)), (D.lc (D.at d 4)))) (fun (l15, k16, c17, k18, c19, k20, c21, k22, c23) => .tup [iD l15, .list k16 c17, .list k18 c19, .list k20 c21, .list k22 c23, .one (.tuple #[]), .one (.tuple #[])]) fun (l15, k16, c17, k18, c19, k20, c21, k22, c23) => (some (.tup [.agg [.list 0 [], .list 0 []], iD l15])) else none)))))))
theorem peaksOf_M_ok (ky : Nat) (cy : List D) (er : Bool) (ku : Nat) (cu : List D) {r : D} (h : peaksOf_M ky cy er ku cu = some r) : Con 21 [.agg [.list ky cy, .one (.bool er)], .list ku cu] r := by
  unfold peaksOf_M at h
  obtain ⟨⟨k0, c1, k2, c3, r4⟩, f1_, h2_⟩ := pullD_elim h
  replace f1_ := m_8_ok f1_
  obtain ⟨r5, f3_, h4_⟩ := pullD_elim h2_
  replace f3_ := m_38_ok f3_
  obtain ⟨r6, f5_, h6_⟩ := pullD_elim h4_
  replace f5_ := m_35_ok f5_
  by_cases b7_ : r6 ≠ (0 : Int)
  · have h8_ := (if_pos b7_).symm.trans h6_
    obtain rfl := Option.some.inj h8_
    exact con_pc (op := true) (I := [21, 42]) (sp := peaksOf_sp) 3000 (bT 1 []) [.tup [.agg [.list k0 c1, .list k2 c3], iD r4], iD r5, iD r6] [c_le 1, c_b b7_] [k_c f1_, k_c f3_, k_c f5_] (by kernel_rfl)
  have h8_ := (if_neg b7_).symm.trans h6_
  have b9_ : r6 = (0 : Int) := by first | exact b7_ | simpa using b7_
  obtain ⟨f10_, h11_⟩ := guardP_elim h8_
  obtain ⟨f12_, h13_⟩ := guardP_elim h11_
  obtain ⟨j, ds, e14_, h15_⟩ := bindL_elim h13_
  by_cases j16_ : j = 0
  · have h19_ := (if_pos j16_).symm.trans h15_
    clear h15_
    subst j16_
    obtain ⟨⟨k7, c8, k9, c10, k11, c12, k13, c14⟩, e17_, h20_⟩ := pullD_elim h19_
    clear h19_
    obtain rfl := tup_inj e17_
    have k18_ := peaksOf_L8_in0 ky cy er ku cu k0 c1 k2 c3 r4 r5 r6 e14_
    obtain ⟨f21_, h22_⟩ := guardP_elim h20_
    obtain ⟨f23_, h24_⟩ := guardP_elim h22_
    obtain rfl := Option.some.inj h24_
    exact con_pc (op := true) (I := [21, 42]) (sp := peaksOf_sp) 3000 (bF 1 []) [.tup [.agg [.list k0 c1, .list k2 c3], iD r4], iD r5, iD r6, .tup [iD (Int.ofNat 0), .list k7 c8, .list k9 c10, .list k11 c12, .list k13 c14, .one (.tuple #[]), .one (.tuple #[])]] [c_le 1, c_bn b9_, c_f f10_, c_f f12_, c_f f23_, c_f f21_] [k_c f1_, k_c f3_, k_c f5_, k_l k18_ [] [.tup [iD (Int.ofNat 0), .list k7 c8, .list k9 c10, .list k11 c12, .list k13 c14, .one (.tuple #[]), .one (.tuple #[])]] []] (by kernel_rfl)
  have h25_ := (if_neg j16_).symm.trans h15_
  clear h15_
  by_cases j26_ : j = 1
  · have h29_ := (if_pos j26_).symm.trans h25_
    clear h25_
    subst j26_
    obtain ⟨⟨l15, k16, c17, k18, c19, k20, c21, k22, c23⟩, e27_, h30_⟩ := pullD_elim h29_
    clear h29_
    obtain rfl := tup_inj e27_
    have k28_ := peaksOf_L8_in1 ky cy er ku cu k0 c1 k2 c3 r4 r5 r6 e14_
    obtain rfl := Option.some.inj h30_
    exact con_pc (op := true) (I := [21, 42]) (sp := peaksOf_sp) 3000 (bF 1 []) [.tup [.agg [.list k0 c1, .list k2 c3], iD r4], iD r5, iD r6, .tup [iD (Int.ofNat 1), iD l15, .list k16 c17, .list k18 c19, .list k20 c21, .list k22 c23, .one (.tuple #[]), .one (.tuple #[])]] [c_le 1, c_bn b9_, c_f f10_, c_f f12_] [k_c f1_, k_c f3_, k_c f5_, k_l k28_ [] [.tup [iD (Int.ofNat 1), iD l15, .list k16 c17, .list k18 c19, .list k20 c21, .list k22 c23, .one (.tuple #[]), .one (.tuple #[])]] []] (by kernel_rfl)
  have h31_ := (if_neg j26_).symm.trans h25_
  clear h25_
  cases h31_
def m_21 (ds : List D) : Option D := pullD (α := Nat × (List D) × Bool × Nat × (List D)) (some (.tup ds)) (fun d => ((D.ln (D.at (D.at d 0) 0)), (D.lc (D.at (D.at d 0) 0)), (D.vb (D.at (D.at d 0) 1)), (D.ln (D.at d 1)), (D.lc (D.at d 1)))) (fun (ky, cy, er, ku, cu) => .tup [.agg [.list ky cy, .one (.bool er)], .list ku cu]) fun (ky, cy, er, ku, cu) => peaksOf_M ky cy er ku cu
theorem m_21_ok {ds : List D} {r : D} (h : m_21 ds = some r) : Con 21 ds r := by
  unfold m_21 at h
  obtain ⟨⟨ky, cy, er, ku, cu⟩, e0, h0⟩ := pullD_elim h
  obtain rfl := tup_inj e0
  exact peaksOf_M_ok ky cy er ku cu h0
theorem m_21_eq (ky : Nat) (cy : List D) (er : Bool) (ku : Nat) (cu : List D) : m_21 [.agg [.list ky cy, .one (.bool er)], .list ku cu] = peaksOf_M ky cy er ku cu := pullD_some (ky, cy, er, ku, cu) rfl rfl
def peaksR_x10_0 : LExit := ⟨some 0, [.cmade 8 0, .cmade 8 1, .cval 9 0, .cval 9 1, .cnil 4 0, .cnil 4 1], (5 :: (List.range' 10 5 ++ (List.range' 36 66)))⟩
def peaksR_x10_1 : LExit := ⟨none, [.val 5, .cmade 8 0, .cmade 8 1, .cval 9 0, .cval 9 1, .cnil 4 0, .cnil 4 1], (List.range' 10 5 ++ (List.range' 36 66))⟩
def peaksR_x16_0 : LExit := ⟨some 2, [.cmade 8 0, .cmade 8 1], (14 :: (List.range' 57 44))⟩
def peaksR_sp : List LSpec := [⟨23, 10, [peaksR_x10_0, peaksR_x10_1]⟩, ⟨23, 16, [peaksR_x16_0]⟩]
def peaksR_L16_E (ky : Nat) (cy : List D) (er : Bool) (ku : Nat) (cu : List D) (x0 : Int) (x1 : Nat) (x2 : List D) (x3 : Nat) (x4 : List D) (x5 : Int) (x6 : List D) (x7 : List D) (x8 : Nat) (x9 : List D) (x10 : Nat) (x11 : List D) (x12 : Int) (x13 : Nat) (x14 : List D) (x15 : Nat) (x16 : List D) (x17 : Nat) (x18 : List D) (x19 : Int) : List AV × AHeap := ([.agg [.dsl 0, .pure (.bool er)], .dsl 1, .ptr 2 0, .pure (.tuple #[]), .ptr 3 0, .any 12, .pure (.int .i64 x0), .pure (.int .i64 (ky : Int)), .ptr 6 0, .ptr 9 0, .pure (.int .i64 x5), .ptr 91 0, .dsl 90, .pure (.int .i64 x19), .pure (.int .i64 (0 : Int)), .agg [.dsl 0, .pure (.bool er)], .pure (.int .i64 x0), .pure (.int .i64 x0), .pure (.bool (x0 != (0 : Int))), .pure (.tuple #[]), .pure (.tuple #[]), .dsl 1, .pure (.int .i64 (ku : Int)), .pure (.bool (decide ((ku : Int) > (200 : Int)))), .pure (.tuple #[]), .ptr 2 0, .dsl 0, .pure (.int .i64 (ky : Int)), .pure (.int .i64 (ky : Int)), .pure (.int .i64 (IntKind.i64.wrap ((ky : Int) + (1 : Int)))), .bsl 4 0 (IntKind.i64.wrap ((ky : Int) + (1 : Int))).toNat (IntKind.i64.wrap ((ky : Int) + (1 : Int))).toNat, .pure (.int .i64 (ky : Int)), .bsl 5 0 ((ky : Int)).toNat ((ky : Int)).toNat, .agg [.bsl 4 0 (IntKind.i64.wrap ((ky : Int) + (1 : Int))).toNat (IntKind.i64.wrap ((ky : Int) + (1 : Int))).toNat, .bsl 5 0 ((ky : Int)).toNat ((ky : Int)).toNat], .agg [.dsl 0, .pure (.bool er)], .agg [.dsl 7, .dsl 8], .pure (.int .i64 x5), .dsl 1, .pure (.int .i64 (ku : Int)), .pure (.bool (decide (x5 < (ku : Int)))), .any 21, .any 22, .tuple [.agg [.dsl 88, .dsl 89], .dsl 90, .pure (.int .i64 x19)], .agg [.dsl 0, .pure (.bool er)], .agg [.dsl 10, .dsl 11], .dsl 1, .pure (.int .i64 x5), .dptr 1 (x5.toNat * 1), .pure (.int .i64 x12), .tuple [.agg [.dsl 88, .dsl 89], .dsl 90, .pure (.int .i64 x19)], .agg [.dsl 88, .dsl 89], .dsl 90, .pure (.int .i64 x19), .pure (.int .i64 x19), .pure (.bool (x19 != (0 : Int))), .any 36, .any 37, .any 38, .any 39, .any 40, .any 41, .any 42, .any 43, .any 44, .any 45, .any 46, .any 47, .any 48, .any 49, .any 50, .any 51, .any 52, .any 53, .any 54, .any 55, .any 56, .any 57, .any 58, .any 59, .any 60, .any 61, .any 62, .any 63, .any 64, .any 65, .any 66, .any 67, .any 68, .any 69, .any 70, .any 71, .any 72, .any 73, .any 74, .any 75, .any 76, .any 77, .any 78, .any 79, .any 80, .any 81, .any 82, .pure (.tuple #[])], [(90, { cells := [], opn := none, kind := .deep x17 x18 }), (89, { cells := [], opn := none, kind := .deep x15 x16 }), (88, { cells := [], opn := none, kind := .deep x13 x14 }), (91, { cells := [.dsl 88, .dsl 89], opn := none, kind := .cells }), (11, { cells := [], opn := none, kind := .deep x10 x11 }), (10, { cells := [], opn := none, kind := .deep x8 x9 }), (9, { cells := [.dsl 10, .dsl 11], opn := none, kind := .cells }), (8, { cells := [], opn := none, kind := .deep x3 x4 }), (7, { cells := [], opn := none, kind := .deep x1 x2 }), (4, { cells := [], opn := none, kind := .big x6 }), (5, { cells := [], opn := none, kind := .big x7 }), (6, { cells := [.bsl 4 0 (IntKind.i64.wrap ((ky : Int) + (1 : Int))).toNat (IntKind.i64.wrap ((ky : Int) + (1 : Int))).toNat, .bsl 5 0 ((ky : Int)).toNat ((ky : Int)).toNat], opn := none, kind := .cells }), (3, { cells := [.pure (.slice none 0 0), .pure (.slice none 0 0)], opn := none, kind := .cells }), (2, { cells := [.dsl 0, .pure (.bool er)], opn := none, kind := .cells }), (1, { cells := [], opn := none, kind := .deep ku cu }), (0, { cells := [], opn := none, kind := .deep ky cy })])
def peaksR_L16_A : LoopAt := ⟨23, loopAt Try.prog 23 1, 92, 139, 4, noFrame⟩
theorem peaksR_L16_ok : (peaksR_L16_A).OK := ⟨by show 92 ≤ 139; decide, by show 4 ≤ 92; decide, by kernel_rfl, rfl⟩
def peaksR_L16_gs (ky : Nat) (cy : List D) (er : Bool) (ku : Nat) (cu : List D) (x0 : Int) (x1 : Nat) (x2 : List D) (x3 : Nat) (x4 : List D) (x5 : Int) (x6 : List D) (x7 : List D) (x8 : Nat) (x9 : List D) (x10 : Nat) (x11 : List D) (x12 : Int) (x13 : Nat) (x14 : List D) (x15 : Nat) (x16 : List D) (x17 : Nat) (x18 : List D) (x19 : Int) : Go.Ev.Rd → Option GS
  | .next 0 ds => ghost [.val 14, .cmade 8 0, .cmade 8 1] (List.range' 57 44) (peaksR_L16_E ky cy er ku cu x0 x1 x2 x3 x4 x5 x6 x7 x8 x9 x10 x11 x12 x13 x14 x15 x16 x17 x18 x19).1 (peaksR_L16_E ky cy er ku cu x0 x1 x2 x3 x4 x5 x6 x7 x8 x9 x10 x11 x12 x13 x14 x15 x16 x17 x18 x19).2 92 ds
  | .out 0 ds => ghost peaksR_x16_0.live peaksR_x16_0.junk (peaksR_L16_E ky cy er ku cu x0 x1 x2 x3 x4 x5 x6 x7 x8 x9 x10 x11 x12 x13 x14 x15 x16 x17 x18 x19).1 (peaksR_L16_E ky cy er ku cu x0 x1 x2 x3 x4 x5 x6 x7 x8 x9 x10 x11 x12 x13 x14 x15 x16 x17 x18 x19).2 92 ds
  | _ => none
def peaksR_L16_ex : Nat → Option Nat
  | 0 => peaksR_x16_0.ex
  | _ => none
def peaksR_L16_ax : Go.Ev.Rd → AX
  | .next _ _ => .normal
  | .out j _ => axOf (peaksR_L16_ex j)
def peaksR_L16_S0 (ky : Nat) (cy : List D) (er : Bool) (ku : Nat) (cu : List D) (x0 : Int) (x1 : Nat) (x2 : List D) (x3 : Nat) (x4 : List D) (x5 : Int) (x6 : List D) (x7 : List D) (x8 : Nat) (x9 : List D) (x10 : Nat) (x11 : List D) (x12 : Int) (x13 : Nat) (x14 : List D) (x15 : Nat) (x16 : List D) (x17 : Nat) (x18 : List D) (x19 : Int) (ds : List D) : Option Go.Ev.Rd := pullD (α := Int × Nat × (List D) × Nat × (List D)) (some (.tup ds)) (fun d => ((D.vi (D.at d 0)), (D.ln (D.at d 1)), (D.lc (D.at d 1)), (D.ln (D.at d 2)), (D.lc (D.at d 2)))) (fun (s14, s8_0n, s8_0c, s8_1n, s8_1c) => .tup [iD s14, .list s8_0n s8_0c, .list s8_1n s8_1c]) fun (s14, s8_0n, s8_0c, s8_1n, s8_1c) => ((if s14 ≤ (ky : Int) then guardP ((0 : Int) ≤ s14 ∧ s14.toNat < (IntKind.i64.wrap ((ky : Int) + (1 : Int))).toNat) (pullD (α := Int) (readD s8_0c (0 + s14.toNat * 1) 1 false) (fun d => ((D.vi d))) (fun v0 => iD v0) fun v0 => (guardP ((0 : Int) ≤ s14 ∧ s14.toNat < x17) (pullD (α := Int) (readD x18 (s14.toNat * 1) 1 false) (fun d => ((D.vi d))) (fun v1 => iD v1) fun v1 => (pullD (α := Int) (m_43 [iD v1]) (fun d => ((D.vi d))) (fun r2 => iD r2) fun r2 => (guardP (0 + s14.toNat * 1 + 1 ≤ s8_0c.length ∧ ∀ (u : D), u ∈ [dCell (.int .i64 (if r2 > v0 then r2 else v0))] → cellD u) ((if s14 < (ky : Int) then guardP ((0 : Int) ≤ s14 ∧ s14.toNat < ((ky : Int)).toNat) (pullD (α := Int) (readD s8_1c (0 + s14.toNat * 1) 1 false) (fun d => ((D.vi d))) (fun v3 => iD v3) fun v3 => (pullD (α := Int) (readD x18 (s14.toNat * 1) 1 false) (fun d => ((D.vi d))) (fun v4 => iD v4) fun v4 => (guardP ((0 : Int) ≤ IntKind.i64.wrap (s14 + (1 : Int)) ∧ (IntKind.i64.wrap (s14 + (1 : Int))).toNat < x17) (pullD (α := Int) (readD x18 ((IntKind.i64.wrap (s14 + (1 : Int))).toNat * 1) 1 false) (fun d => ((D.vi d))) (fun v5 => iD v5) fun v5 => (pullD (α := Int) (m_43 [iD (IntKind.i64.wrap (v4 - v5))]) (fun d => ((D.vi d))) (fun r6 => iD r6) fun r6 => (guardP (0 + s14.toNat * 1 + 1 ≤ s8_1c.length ∧ ∀ (u : D), u ∈ [dCell (.int .i64 (if r6 > v3 then r6 else v3))] → cellD u) (some (.next 0 [iD (IntKind.i64.wrap (s14 + (1 : Int))), .list (IntKind.i64.wrap ((ky : Int) + (1 : Int))).toNat (List.append (List.take (0 + s14.toNat * 1) s8_0c ++ [dCell (.int .i64 (if r2 > v0 then r2 else v0))]) (List.drop (0 + s14.toNat * 1 + [dCell (.int .i64 (if r2 > v0 then r2 else v0))].length) s8_0c)), .list ((ky : Int)).toNat (List.append (List.take (0 + s14.toNat * 1) s8_1c ++ [dCell (.int .i64 (if r6 > v3 then r6 else v3))]) (List.drop (0 + s14.toNat * 1 + [dCell (.int .i64 (if r6 > v3 then r6 else v3))].length) s8_1c))])))))))) else some (.next 0 [iD (IntKind.i64.wrap (s14 + (1 : Int))), .list (IntKind.i64.wrap ((ky : Int) + (1 : Int))).toNat (List.append (List.take (0 + s14.toNat * 1) s8_0c ++ [dCell (.int .i64 (if r2 > v0 then r2 else v0))]) (List.drop (0 + s14.toNat * 1 + [dCell (.int .i64 (if r2 > v0 then r2 else v0))].length) s8_0c)), .list ((ky : Int)).toNat s8_1c])))))))) else some (.out 0 [.list (IntKind.i64.wrap ((ky : Int) + (1 : Int))).toNat s8_0c, .list ((ky : Int)).toNat s8_1c])))
def peaksR_L16_S (ky : Nat) (cy : List D) (er : Bool) (ku : Nat) (cu : List D) (x0 : Int) (x1 : Nat) (x2 : List D) (x3 : Nat) (x4 : List D) (x5 : Int) (x6 : List D) (x7 : List D) (x8 : Nat) (x9 : List D) (x10 : Nat) (x11 : List D) (x12 : Int) (x13 : Nat) (x14 : List D) (x15 : Nat) (x16 : List D) (x17 : Nat) (x18 : List D) (x19 : Int) : Go.Ev.Rd → Option Go.Ev.Rd
  | .next 0 ds => peaksR_L16_S0 ky cy er ku cu x0 x1 x2 x3 x4 x5 x6 x7 x8 x9 x10 x11 x12 x13 x14 x15 x16 x17 x18 x19 ds
  | _ => none
theorem peaksR_L16_S_ok (ky : Nat) (cy : List D) (er : Bool) (ku : Nat) (cu : List D) (x0 : Int) (x1 : Nat) (x2 : List D) (x3 : Nat) (x4 : List D) (x5 : Int) (x6 : List D) (x7 : List D) (x8 : Nat) (x9 : List D) (x10 : Nat) (x11 : List D) (x12 : Int) (x13 : Nat) (x14 : List D) (x15 : Nat) (x16 : List D) (x17 : Nat) (x18 : List D) (x19 : Int) : ∀ s_ t_, peaksR_L16_S ky cy er ku cu x0 x1 x2 x3 x4 x5 x6 x7 x8 x9 x10 x11 x12 x13 x14 x15 x16 x17 x18 x19 s_ = some t_ → Step (ctx [23] peaksR_sp) Tabs peaksR_L16_A (stateOf (peaksR_L16_gs ky cy er ku cu x0 x1 x2 x3 x4 x5 x6 x7 x8 x9 x10 x11 x12 x13 x14 x15 x16 x17 x18 x19 s_)) (stateOf (peaksR_L16_gs ky cy er ku cu x0 x1 x2 x3 x4 x5 x6 x7 x8 x9 x10 x11 x12 x13 x14 x15 x16 x17 x18 x19 t_)) (peaksR_L16_ax t_) ∧ EndOK peaksR_L16_A.nx peaksR_L16_A.low (peaksR_L16_gs ky cy er ku cu x0 x1 x2 x3 x4 x5 x6 x7 x8 x9 x10 x11 x12 x13 x14 x15 x16 x17 x18 x19) t_
  | .next 0 ds, t_, h => by
    have h_ : peaksR_L16_S0 ky cy er ku cu x0 x1 x2 x3 x4 x5 x6 x7 x8 x9 x10 x11 x12 x13 x14 x15 x16 x17 x18 x19 ds = some t_ := h
    clear h
    unfold peaksR_L16_S0 at h_
    obtain ⟨⟨s14, s8_0n, s8_0c, s8_1n, s8_1c⟩, e0, h0⟩ := pullD_elim h_
    clear h_
    obtain rfl := tup_inj e0
    by_cases b1_ : s14 ≤ (ky : Int)
    · have h2_ := (if_pos b1_).symm.trans h0
      obtain ⟨f3_, h4_⟩ := guardP_elim h2_
      obtain ⟨v0, f5_, h6_⟩ := pullD_elim h4_
      replace f5_ := readD_elim f5_
      obtain ⟨f7_, h8_⟩ := guardP_elim h6_
      obtain ⟨v1, f9_, h10_⟩ := pullD_elim h8_
      replace f9_ := readD_elim f9_
      obtain ⟨r2, f11_, h12_⟩ := pullD_elim h10_
      replace f11_ := m_43_ok f11_
      obtain ⟨f13_, h14_⟩ := guardP_elim h12_
      by_cases b15_ : s14 < (ky : Int)
      · have h16_ := (if_pos b15_).symm.trans h14_
        obtain ⟨f17_, h18_⟩ := guardP_elim h16_
        obtain ⟨v3, f19_, h20_⟩ := pullD_elim h18_
        replace f19_ := readD_elim f19_
        obtain ⟨v4, f21_, h22_⟩ := pullD_elim h20_
        replace f21_ := readD_elim f21_
        obtain ⟨f23_, h24_⟩ := guardP_elim h22_
        obtain ⟨v5, f25_, h26_⟩ := pullD_elim h24_
        replace f25_ := readD_elim f25_
        obtain ⟨r6, f27_, h28_⟩ := pullD_elim h26_
        replace f27_ := m_43_ok f27_
        obtain ⟨f29_, h30_⟩ := guardP_elim h28_
        obtain rfl := Option.some.inj h30_
        exact ⟨step_pc 3000 (bT 2 []) [iD v0, iD v1, iD r2, iD v3, iD v4, iD v5, iD r6] [c_d b1_, c_f f3_, c_f f5_, c_f f7_, c_f f9_, c_f f3_, c_f f13_, c_d b15_, c_f f17_, c_f f19_, c_f f7_, c_f f21_, c_f f23_, c_f f25_, c_f f17_, c_f f29_] [k_c f11_, k_c f27_] _ rfl (by kernel_rfl) (by kernel_rfl) (by kernel_rfl) (by kernel_rfl) (by kernel_rfl) (by kernel_rfl), trivial⟩
      have h16_ := (if_neg b15_).symm.trans h14_
      obtain rfl := Option.some.inj h16_
      exact ⟨step_pc 3000 (bT 1 (bF 1 [])) [iD v0, iD v1, iD r2] [c_d b1_, c_f f3_, c_f f5_, c_f f7_, c_f f9_, c_f f3_, c_f f13_, c_n b15_] [k_c f11_] _ rfl (by kernel_rfl) (by kernel_rfl) (by kernel_rfl) (by kernel_rfl) (by kernel_rfl) (by kernel_rfl), trivial⟩
    have h2_ := (if_neg b1_).symm.trans h0
    obtain rfl := Option.some.inj h2_
    exact ⟨step_pc 3000 (bF 1 []) [] [c_n b1_] [] _ rfl (by kernel_rfl) (by kernel_rfl) (by kernel_rfl) (by kernel_rfl) (by kernel_rfl) (by kernel_rfl), by kernel_rfl, by kernel_rfl⟩
  | .next (_ + 1) _, _, h => by cases h
  | .out _ _, _, h => by cases h
theorem peaksR_L16_go (ky : Nat) (cy : List D) (er : Bool) (ku : Nat) (cu : List D) (x0 : Int) (x1 : Nat) (x2 : List D) (x3 : Nat) (x4 : List D) (x5 : Int) (x6 : List D) (x7 : List D) (x8 : Nat) (x9 : List D) (x10 : Nat) (x11 : List D) (x12 : Int) (x13 : Nat) (x14 : List D) (x15 : Nat) (x16 : List D) (x17 : Nat) (x18 : List D) (x19 : Int) {q : Nat} {ds : List D} {j : Nat} {es : List D} (h : runR (peaksR_L16_S ky cy er ku cu x0 x1 x2 x3 x4 x5 x6 x7 x8 x9 x10 x11 x12 x13 x14 x15 x16 x17 x18 x19) (.next q ds) = some (.out j es)) : Runs (ctx [23] peaksR_sp) Tabs peaksR_L16_A (stateOf (peaksR_L16_gs ky cy er ku cu x0 x1 x2 x3 x4 x5 x6 x7 x8 x9 x10 x11 x12 x13 x14 x15 x16 x17 x18 x19 (.next q ds))) (stateOf (peaksR_L16_gs ky cy er ku cu x0 x1 x2 x3 x4 x5 x6 x7 x8 x9 x10 x11 x12 x13 x14 x15 x16 x17 x18 x19 (.out j es))) (peaksR_L16_ax (.out j es)) ∧ (nxtOf (peaksR_L16_gs ky cy er ku cu x0 x1 x2 x3 x4 x5 x6 x7 x8 x9 x10 x11 x12 x13 x14 x15 x16 x17 x18 x19 (.out j es)), lowGS (peaksR_L16_gs ky cy er ku cu x0 x1 x2 x3 x4 x5 x6 x7 x8 x9 x10 x11 x12 x13 x14 x15 x16 x17 x18 x19 (.out j es))) = (peaksR_L16_A.nx, peaksR_L16_A.low) :=
  runs_of' (good true _ _) peaksR_L16_ok (ax := peaksR_L16_ax) (fun _ _ => rfl) (fun _ _ => axOf_end _) (peaksR_L16_S_ok ky cy er ku cu x0 x1 x2 x3 x4 x5 x6 x7 x8 x9 x10 x11 x12 x13 x14 x15 x16 x17 x18 x19) h
theorem peaksR_L16_in0 (ky : Nat) (cy : List D) (er : Bool) (ku : Nat) (cu : List D) (x0 : Int) (x1 : Nat) (x2 : List D) (x3 : Nat) (x4 : List D) (x5 : Int) (x6 : List D) (x7 : List D) (x8 : Nat) (x9 : List D) (x10 : Nat) (x11 : List D) (x12 : Int) (x13 : Nat) (x14 : List D) (x15 : Nat) (x16 : List D) (x17 : Nat) (x18 : List D) (x19 : Int) {es : List D} (h : runR (peaksR_L16_S ky cy er ku cu x0 x1 x2 x3 x4 x5 x6 x7 x8 x9 x10 x11 x12 x13 x14 x15 x16 x17 x18 x19) (.next 0 [iD ((0 : Int)), .list ((IntKind.i64.wrap ((ky : Int) + (1 : Int))).toNat) (x6), .list (((ky : Int)).toNat) (x7)]) = some (.out 0 es)) : LoopC (loopAt Try.prog 23 1) (peaksR_L16_E ky cy er ku cu x0 x1 x2 x3 x4 x5 x6 x7 x8 x9 x10 x11 x12 x13 x14 x15 x16 x17 x18 x19) 92 noFrame peaksR_x16_0 es :=
  have r := peaksR_L16_go ky cy er ku cu x0 x1 x2 x3 x4 x5 x6 x7 x8 x9 x10 x11 x12 x13 x14 x15 x16 x17 x18 x19 h
  loopin_as rfl (loop_in (l := peaksR_L16_A) (E := (peaksR_L16_E ky cy er ku cu x0 x1 x2 x3 x4 x5 x6 x7 x8 x9 x10 x11 x12 x13 x14 x15 x16 x17 x18 x19)) (S := stateOf (peaksR_L16_gs ky cy er ku cu x0 x1 x2 x3 x4 x5 x6 x7 x8 x9 x10 x11 x12 x13 x14 x15 x16 x17 x18 x19 (.next 0 [iD ((0 : Int)), .list ((IntKind.i64.wrap ((ky : Int) + (1 : Int))).toNat) (x6), .list (((ky : Int)).toNat) (x7)]))) (ns := nsOf (peaksR_L16_gs ky cy er ku cu x0 x1 x2 x3 x4 x5 x6 x7 x8 x9 x10 x11 x12 x13 x14 x15 x16 x17 x18 x19 (.next 0 [iD ((0 : Int)), .list ((IntKind.i64.wrap ((ky : Int) + (1 : Int))).toNat) (x6), .list (((ky : Int)).toNat) (x7)]))) peaksR_L16_ok r.1 r.2 (by kernel_rfl) (by kernel_rfl) (by kernel_rfl) (by kernel_rfl))
def peaksR_L10_E (ky : Nat) (cy : List D) (er : Bool) (ku : Nat) (cu : List D) (x0 : Int) (x1 : Nat) (x2 : List D) (x3 : Nat) (x4 : List D) : List AV × AHeap := ([.agg [.dsl 0, .pure (.bool er)], .dsl 1, .ptr 2 0, .pure (.tuple #[]), .ptr 3 0, .pure (.int .i64 (0 : Int)), .pure (.int .i64 x0), .pure (.int .i64 (ky : Int)), .ptr 6 0, .ptr 9 0, .pure (.int .i64 (0 : Int)), .pure (.tuple #[]), .pure (.tuple #[]), .pure (.tuple #[]), .pure (.tuple #[]), .agg [.dsl 0, .pure (.bool er)], .pure (.int .i64 x0), .pure (.int .i64 x0), .pure (.bool (x0 != (0 : Int))), .pure (.tuple #[]), .pure (.tuple #[]), .dsl 1, .pure (.int .i64 (ku : Int)), .pure (.bool (decide ((ku : Int) > (200 : Int)))), .pure (.tuple #[]), .ptr 2 0, .dsl 0, .pure (.int .i64 (ky : Int)), .pure (.int .i64 (ky : Int)), .pure (.int .i64 (IntKind.i64.wrap ((ky : Int) + (1 : Int)))), .bsl 4 0 (IntKind.i64.wrap ((ky : Int) + (1 : Int))).toNat (IntKind.i64.wrap ((ky : Int) + (1 : Int))).toNat, .pure (.int .i64 (ky : Int)), .bsl 5 0 ((ky : Int)).toNat ((ky : Int)).toNat, .agg [.bsl 4 0 (IntKind.i64.wrap ((ky : Int) + (1 : Int))).toNat (IntKind.i64.wrap ((ky : Int) + (1 : Int))).toNat, .bsl 5 0 ((ky : Int)).toNat ((ky : Int)).toNat], .agg [.dsl 0, .pure (.bool er)], .agg [.dsl 7, .dsl 8], .pure (.tuple #[]), .pure (.tuple #[]), .pure (.tuple #[]), .pure (.tuple #[]), .pure (.tuple #[]), .pure (.tuple #[]), .pure (.tuple #[]), .pure (.tuple #[]), .pure (.tuple #[]), .pure (.tuple #[]), .pure (.tuple #[]), .pure (.tuple #[]), .pure (.tuple #[]), .pure (.tuple #[]), .pure (.tuple #[]), .pure (.tuple #[]), .pure (.tuple #[]), .pure (.tuple #[]), .pure (.tuple #[]), .pure (.tuple #[]), .pure (.tuple #[]), .pure (.tuple #[]), .pure (.tuple #[]), .pure (.tuple #[]), .pure (.tuple #[]), .pure (.tuple #[]), .pure (.tuple #[]), .pure (.tuple #[]), .pure (.tuple #[]), .pure (.tuple #[]), .pure (.tuple #[]), .pure (.tuple #[]), .pure (.tuple #[]), .pure (.tuple #[]), .pure (.tuple #[]), .pure (.tuple #[]), .pure (.tuple #[]), .pure (.tuple #[]), .pure (.tuple #[]), .pure (.tuple #[]), .pure (.tuple #[]), .pure (.tuple #[]), .pure (.tuple #[]), .pure (.tuple #[]), .pure (.tuple #[]), .pure (.tuple #[]), .pure (.tuple #[]), .pure (.tuple #[]), .pure (.tuple #[]), .pure (.tuple #[]), .pure (.tuple #[]), .pure (.tuple #[]), .pure (.tuple #[]), .pure (.tuple #[]), .pure (.tuple #[]), .pure (.tuple #[]), .pure (.tuple #[]), .pure (.tuple #[]), .pure (.tuple #[]), .pure (.tuple #[]), .pure (.tuple #[]), .pure (.tuple #[]), .pure (.tuple #[]), .pure (.tuple #[]), .pure (.tuple #[]), .pure (.tuple #[]), .pure (.tuple #[])], [(9, { cells := [.dsl 7, .dsl 8], opn := none, kind := .cells }), (8, { cells := [], opn := none, kind := .deep x3 x4 }), (7, { cells := [], opn := none, kind := .deep x1 x2 }), (4, { cells := [], opn := none, kind := .big (List.map dCell (List.replicate (IntKind.i64.wrap ((ky : Int) + (1 : Int))).toNat (Value.int .i64 (0 : Int)).cells.toList).flatten) }), (5, { cells := [], opn := none, kind := .big (List.map dCell (List.replicate ((ky : Int)).toNat (Value.int .i64 (0 : Int)).cells.toList).flatten) }), (6, { cells := [.bsl 4 0 (IntKind.i64.wrap ((ky : Int) + (1 : Int))).toNat (IntKind.i64.wrap ((ky : Int) + (1 : Int))).toNat, .bsl 5 0 ((ky : Int)).toNat ((ky : Int)).toNat], opn := none, kind := .cells }), (3, { cells := [.pure (.slice none 0 0), .pure (.slice none 0 0)], opn := none, kind := .cells }), (2, { cells := [.dsl 0, .pure (.bool er)], opn := none, kind := .cells }), (1, { cells := [], opn := none, kind := .deep ku cu }), (0, { cells := [], opn := none, kind := .deep ky cy })])
def peaksR_L10_A : LoopAt := ⟨23, loopAt Try.prog 23 0, 10, 88, 3, noFrame⟩
theorem peaksR_L10_ok : (peaksR_L10_A).OK := ⟨by show 10 ≤ 88; decide, by show 3 ≤ 10; decide, by kernel_rfl, rfl⟩
def peaksR_L10_gs (ky : Nat) (cy : List D) (er : Bool) (ku : Nat) (cu : List D) (x0 : Int) (x1 : Nat) (x2 : List D) (x3 : Nat) (x4 : List D) : Go.Ev.Rd → Option GS
  | .next 0 ds => ghost [.val 10, .cmade 8 0, .cmade 8 1, .cval 9 0, .cval 9 1, .cnil 4 0, .cnil 4 1] (5 :: (List.range' 11 4 ++ (List.range' 36 66))) (peaksR_L10_E ky cy er ku cu x0 x1 x2 x3 x4).1 (peaksR_L10_E ky cy er ku cu x0 x1 x2 x3 x4).2 10 ds
  | .out 0 ds => ghost peaksR_x10_0.live peaksR_x10_0.junk (peaksR_L10_E ky cy er ku cu x0 x1 x2 x3 x4).1 (peaksR_L10_E ky cy er ku cu x0 x1 x2 x3 x4).2 10 ds
  | .out 1 ds => ghost peaksR_x10_1.live peaksR_x10_1.junk (peaksR_L10_E ky cy er ku cu x0 x1 x2 x3 x4).1 (peaksR_L10_E ky cy er ku cu x0 x1 x2 x3 x4).2 10 ds
  | _ => none
def peaksR_L10_ex : Nat → Option Nat
  | 0 => peaksR_x10_0.ex
  | 1 => peaksR_x10_1.ex
  | _ => none
def peaksR_L10_ax : Go.Ev.Rd → AX
  | .next _ _ => .normal
  | .out j _ => axOf (peaksR_L10_ex j)
def peaksR_L10_S0 (ky : Nat) (cy : List D) (er : Bool) (ku : Nat) (cu : List D) (x0 : Int) (x1 : Nat) (x2 : List D) (x3 : Nat) (x4 : List D) (ds : List D) : Option Go.Ev.Rd := pullD (α := Int × Nat × (List D) × Nat × (List D) × Nat × (List D) × Nat × (List D)) (some (.tup ds)) (fun d => ((D.vi (D.at d 0)), (D.ln (D.at d 1)), (D.lc (D.at d 1)), (D.ln (D.at d 2)), (D.lc (D.at d 2)), (D.ln (D.at d 3)), (D.lc (D.at d 3)), (D.ln (D.at d 4)), (D.lc (D.at d 4)))) (fun (s10, s8_0n, s8_0c, s8_1n, s8_1c, s9_0n, s9_0c, s9_1n, s9_1c) => .tup [iD s10, .list s8_0n s8_0c, .list s8_1n s8_1c, .list s9_0n s9_0c, .list s9_1n s9_1c, .one (.tuple #[]), .one (.tuple #[])]) fun (s10, s8_0n, s8_0c, s8_1n, s8_1c, s9_0n, s9_0c, s9_1n, s9_1c) => ((if s10 < (ku : Int) then guardP ((0 : Int) ≤ s10 ∧ s10.toNat < ku) (pullD (α := Int) (readD cu (s10.toNat * 1) 1 false) (fun d => ((D.vi d))) (fun v0 => iD v0) fun v0 => (pullD (α := Nat × (List D) × Nat × (List D) × Nat × (List D) × Int) (m_18 [.agg [.list ky cy, .one (.bool er)], .agg [.list s9_0n s9_0c, .list s9_1n s9_1c], iD v0]) (fun d => ((D.ln (D.at (D.at d 0) 0)), (D.lc (D.at (D.at d 0) 0)), (D.ln (D.at (D.at d 0) 1)), (D.lc (D.at (D.at d 0) 1)), (D.ln (D.at d 1)), (D.lc (D.at d 1)), (D.vi (D.at d 2)))) (fun (k1, c2, k3, c4, k5, c6, r7) => .tup [.agg [.list k1 c2, .list k3 c4], .list k5 c6, iD r7]) fun (k1, c2, k3, c4, k5, c6, r7) => ((if r7 ≠ (0 : Int) then some (.out 1 [iD r7, .list (IntKind.i64.wrap ((ky : Int) + (1 : Int))).toNat s8_0c, .list ((ky : Int)).toNat s8_1c, .list s9_0n s9_0c, .list s9_1n s9_1c, .one (.tuple #[]), .one (.tuple #[])]) else bindL (runR (peaksR_L16_S ky cy er ku cu x0 x1 x2 x3 x4 s10 s8_0c s8_1c s9_0n s9_0c s9_1n s9_1c v0 k1 c2 k3 c4 k5 c6 r7) (.next 0 [iD ((0 : Int)), .list ((IntKind.i64.wrap ((ky : Int) + (1 : Int))).toNat) (s8_0c), .list (((ky : Int)).toNat) (s8_1c)])) fun j ds => (if j = 0 then pullD (α := Nat × (List D) × Nat × (List D)) (some (.tup ds)) (fun d => ((D.ln (D.at d 0)), (D.lc (D.at d 0)), (D.ln (D.at d 1)), (D.lc (D.at d 1)))) (fun (k8, c9, k10, c11) => .tup [.list k8 c9, .list k10 c11]) fun (k8, c9, k10, c11) => (some (.next 0 [iD (IntKind.i64.wrap (s10 + (1 : Int))), .list (IntKind.i64.wrap ((ky : Int) + (1 : Int))).toNat c9, .list ((ky : Int)).toNat c11, .list k1 c2, .list k3 c4, .one (.tuple #[]), .one (.tuple #[])])) else none))))) else some (.out 0 [.list (IntKind.i64.wrap ((ky : Int) + (1 : Int))).toNat s8_0c, .list ((ky : Int)).toNat s8_1c, .list s9_0n s9_0c, .list s9_1n s9_1c, .one (.tuple #[]), .one (.tuple #[])])))
def peaksR_L10_S (ky : Nat) (cy : List D) (er : Bool) (ku : Nat) (cu : List D) (x0 : Int) (x1 : Nat) (x2 : List D) (x3 : Nat) (x4 : List D) : Go.Ev.Rd → Option Go.Ev.Rd
  | .next 0 ds => peaksR_L10_S0 ky cy er ku cu x0 x1 x2 x3 x4 ds
  | _ => none
theorem peaksR_L10_S_ok (ky : Nat) (cy : List D) (er : Bool) (ku : Nat) (cu : List D) (x0 : Int) (x1 : Nat) (x2 : List D) (x3 : Nat) (x4 : List D) : ∀ s_ t_, peaksR_L10_S ky cy er ku cu x0 x1 x2 x3 x4 s_ = some t_ → Step (ctx [23] peaksR_sp) Tabs peaksR_L10_A (stateOf (peaksR_L10_gs ky cy er ku cu x0 x1 x2 x3 x4 s_)) (stateOf (peaksR_L10_gs ky cy er ku cu x0 x1 x2 x3 x4 t_)) (peaksR_L10_ax t_) ∧ EndOK peaksR_L10_A.nx peaksR_L10_A.low (peaksR_L10_gs ky cy er ku cu x0 x1 x2 x3 x4) t_
  | .next 0 ds, t_, h => by
    have h_ : peaksR_L10_S0 ky cy er ku cu x0 x1 x2 x3 x4 ds = some t_ := h
    clear h
    unfold peaksR_L10_S0 at h_
    obtain ⟨⟨s10, s8_0n, s8_0c, s8_1n, s8_1c, s9_0n, s9_0c, s9_1n, s9_1c⟩, e0, h0⟩ := pullD_elim h_
    clear h_
    obtain rfl := tup_inj e0
    by_cases b1_ : s10 < (ku : Int)
    · have h2_ := (if_pos b1_).symm.trans h0
      obtain ⟨f3_, h4_⟩ := guardP_elim h2_
      obtain ⟨v0, f5_, h6_⟩ := pullD_elim h4_
      replace f5_ := readD_elim f5_
      obtain ⟨⟨k1, c2, k3, c4, k5, c6, r7⟩, f7_, h8_⟩ := pullD_elim h6_
      replace f7_ := m_18_ok f7_
      by_cases b9_ : r7 ≠ (0 : Int)
      · have h10_ := (if_pos b9_).symm.trans h8_
        obtain rfl := Option.some.inj h10_
        exact ⟨step_pc 3000 (bT 2 []) [iD v0, .tup [.agg [.list k1 c2, .list k3 c4], .list k5 c6, iD r7]] [c_d b1_, c_f f3_, c_f f5_, c_b b9_] [k_c f7_] _ rfl (by kernel_rfl) (by kernel_rfl) (by kernel_rfl) (by kernel_rfl) (by kernel_rfl) (by kernel_rfl), by kernel_rfl, by kernel_rfl⟩
      have h10_ := (if_neg b9_).symm.trans h8_
      have b11_ : r7 = (0 : Int) := by first | exact b9_ | simpa using b9_
      obtain ⟨j, ds, e12_, h13_⟩ := bindL_elim h10_
      by_cases j14_ : j = 0
      · have h17_ := (if_pos j14_).symm.trans h13_
        clear h13_
        subst j14_
        obtain ⟨⟨k8, c9, k10, c11⟩, e15_, h18_⟩ := pullD_elim h17_
        clear h17_
        obtain rfl := tup_inj e15_
        have k16_ := peaksR_L16_in0 ky cy er ku cu x0 x1 x2 x3 x4 s10 s8_0c s8_1c s9_0n s9_0c s9_1n s9_1c v0 k1 c2 k3 c4 k5 c6 r7 e12_
        obtain rfl := Option.some.inj h18_
        exact ⟨step_pc 3000 (bT 1 (bF 1 [])) [iD v0, .tup [.agg [.list k1 c2, .list k3 c4], .list k5 c6, iD r7], .tup [iD (Int.ofNat 0), .list k8 c9, .list k10 c11]] [c_d b1_, c_f f3_, c_f f5_, c_bn b11_] [k_c f7_, k_l k16_ [] [.tup [iD (Int.ofNat 0), .list k8 c9, .list k10 c11]] []] _ rfl (by kernel_rfl) (by kernel_rfl) (by kernel_rfl) (by kernel_rfl) (by kernel_rfl) (by kernel_rfl), trivial⟩
      have h19_ := (if_neg j14_).symm.trans h13_
      clear h13_
      cases h19_
    have h2_ := (if_neg b1_).symm.trans h0
    obtain rfl := Option.some.inj h2_
    exact ⟨step_pc 3000 (bF 1 []) [] [c_n b1_] [] _ rfl (by kernel_rfl) (by kernel_rfl) (by kernel_rfl) (by kernel_rfl) (by kernel_rfl) (by kernel_rfl), by kernel_rfl, by kernel_rfl⟩
  | .next (_ + 1) _, _, h => by cases h
  | .out _ _, _, h => by cases h
theorem peaksR_L10_go (ky : Nat) (cy : List D) (er : Bool) (ku : Nat) (cu : List D) (x0 : Int) (x1 : Nat) (x2 : List D) (x3 : Nat) (x4 : List D) {q : Nat} {ds : List D} {j : Nat} {es : List D} (h : runR (peaksR_L10_S ky cy er ku cu x0 x1 x2 x3 x4) (.next q ds) = some (.out j es)) : Runs (ctx [23] peaksR_sp) Tabs peaksR_L10_A (stateOf (peaksR_L10_gs ky cy er ku cu x0 x1 x2 x3 x4 (.next q ds))) (stateOf (peaksR_L10_gs ky cy er ku cu x0 x1 x2 x3 x4 (.out j es))) (peaksR_L10_ax (.out j es)) ∧ (nxtOf (peaksR_L10_gs ky cy er ku cu x0 x1 x2 x3 x4 (.out j es)), lowGS (peaksR_L10_gs ky cy er ku cu x0 x1 x2 x3 x4 (.out j es))) = (peaksR_L10_A.nx, peaksR_L10_A.low) :=
  runs_of' (good true _ _) peaksR_L10_ok (ax := peaksR_L10_ax) (fun _ _ => rfl) (fun _ _ => axOf_end _) (peaksR_L10_S_ok ky cy er ku cu x0 x1 x2 x3 x4) h
theorem peaksR_L10_in0 (ky : Nat) (cy : List D) (er : Bool) (ku : Nat) (cu : List D) (x0 : Int) (x1 : Nat) (x2 : List D) (x3 : Nat) (x4 : List D) {es : List D} (h : runR (peaksR_L10_S ky cy er ku cu x0 x1 x2 x3 x4) (.next 0 [iD ((0 : Int)), .list ((IntKind.i64.wrap ((ky : Int) + (1 : Int))).toNat) ((List.map dCell (List.replicate (IntKind.i64.wrap ((ky : Int) + (1 : Int))).toNat (Value.int .i64 (0 : Int)).cells.toList).flatten)), .list (((ky : Int)).toNat) ((List.map dCell (List.replicate ((ky : Int)).toNat (Value.int .i64 (0 : Int)).cells.toList).flatten)), .list (x1) (x2), .list (x3) (x4), .one (.tuple #[]), .one (.tuple #[])]) = some (.out 0 es)) : LoopC (loopAt Try.prog 23 0) (peaksR_L10_E ky cy er ku cu x0 x1 x2 x3 x4) 10 noFrame peaksR_x10_0 es :=
  have r := peaksR_L10_go ky cy er ku cu x0 x1 x2 x3 x4 h
  loopin_as rfl (loop_in (l := peaksR_L10_A) (E := (peaksR_L10_E ky cy er ku cu x0 x1 x2 x3 x4)) (S := stateOf (peaksR_L10_gs ky cy er ku cu x0 x1 x2 x3 x4 (.next 0 [iD ((0 : Int)), .list ((IntKind.i64.wrap ((ky : Int) + (1 : Int))).toNat) ((List.map dCell (List.replicate (IntKind.i64.wrap ((ky : Int) + (1 : Int))).toNat (Value.int .i64 (0 : Int)).cells.toList).flatten)), .list (((ky : Int)).toNat) ((List.map dCell (List.replicate ((ky : Int)).toNat (Value.int .i64 (0 : Int)).cells.toList).flatten)), .list (x1) (x2), .list (x3) (x4), .one (.tuple #[]), .one (.tuple #[])]))) (ns := nsOf (peaksR_L10_gs ky cy er ku cu x0 x1 x2 x3 x4 (.next 0 [iD ((0 : Int)), .list ((IntKind.i64.wrap ((ky : Int) + (1 : Int))).toNat) ((List.map dCell (List.replicate (IntKind.i64.wrap ((ky : Int) + (1 : Int))).toNat (Value.int .i64 (0 : Int)).cells.toList).flatten)), .list (((ky : Int)).toNat) ((List.map dCell (List.replicate ((ky : Int)).toNat (Value.int .i64 (0 : Int)).cells.toList).flatten)), .list (x1) (x2), .list (x3) (x4), .one (.tuple #[]), .one (.tuple #[])]))) peaksR_L10_ok r.1 r.2 (by kernel_rfl) (by kernel_rfl) (by kernel_rfl) (by kernel_rfl))
theorem peaksR_L10_in1 (ky : Nat) (cy : List D) (er : Bool) (ku : Nat) (cu : List D) (x0 : Int) (x1 : Nat) (x2 : List D) (x3 : Nat) (x4 : List D) {es : List D} (h : runR (peaksR_L10_S ky cy er ku cu x0 x1 x2 x3 x4) (.next 0 [iD ((0 : Int)), .list ((IntKind.i64.wrap ((ky : Int) + (1 : Int))).toNat) ((List.map dCell (List.replicate (IntKind.i64.wrap ((ky : Int) + (1 : Int))).toNat (Value.int .i64 (0 : Int)).cells.toList).flatten)), .list (((ky : Int)).toNat) ((List.map dCell (List.replicate ((ky : Int)).toNat (Value.int .i64 (0 : Int)).cells.toList).flatten)), .list (x1) (x2), .list (x3) (x4), .one (.tuple #[]), .one (.tuple #[])]) = some (.out 1 es)) : LoopC (loopAt Try.prog 23 0) (peaksR_L10_E ky cy er ku cu x0 x1 x2 x3 x4) 10 noFrame peaksR_x10_1 es :=
  have r := peaksR_L10_go ky cy er ku cu x0 x1 x2 x3 x4 h
  loopin_as rfl (loop_in (l := peaksR_L10_A) (E := (peaksR_L10_E ky cy er ku cu x0 x1 x2 x3 x4)) (S := stateOf (peaksR_L10_gs ky cy er ku cu x0 x1 x2 x3 x4 (.next 0 [iD ((0 : Int)), .list ((IntKind.i64.wrap ((ky : Int) + (1 : Int))).toNat) ((List.map dCell (List.replicate (IntKind.i64.wrap ((ky : Int) + (1 : Int))).toNat (Value.int .i64 (0 : Int)).cells.toList).flatten)), .list (((ky : Int)).toNat) ((List.map dCell (List.replicate ((ky : Int)).toNat (Value.int .i64 (0 : Int)).cells.toList).flatten)), .list (x1) (x2), .list (x3) (x4), .one (.tuple #[]), .one (.tuple #[])]))) (ns := nsOf (peaksR_L10_gs ky cy er ku cu x0 x1 x2 x3 x4 (.next 0 [iD ((0 : Int)), .list ((IntKind.i64.wrap ((ky : Int) + (1 : Int))).toNat) ((List.map dCell (List.replicate (IntKind.i64.wrap ((ky : Int) + (1 : Int))).toNat (Value.int .i64 (0 : Int)).cells.toList).flatten)), .list (((ky : Int)).toNat) ((List.map dCell (List.replicate ((ky : Int)).toNat (Value.int .i64 (0 : Int)).cells.toList).flatten)), .list (x1) (x2), .list (x3) (x4), .one (.tuple #[]), .one (.tuple #[])]))) peaksR_L10_ok r.1 r.2 (by kernel_rfl) (by kernel_rfl) (by kernel_rfl) (by kernel_rfl))
def peaksR_M (ky : Nat) (cy : List D) (er : Bool) (ku : Nat) (cu : List D) : Option D := pullD (α := Int) (m_13 [.agg [.list ky cy, .one (.bool er)]]) (fun d => ((D.vi d))) (fun r0 => iD r0) fun r0 => ((if r0 ≠ (0 : Int) then some (.tup [.agg [.list 0 [], .list 0 []], iD r0]) else (if (ku : Int) > (200 : Int) then some (.tup [.agg [.list 0 [], .list 0 []], iD (8 : Int)]) else guardP ((0 : Int) ≤ IntKind.i64.wrap ((ky : Int) + (1 : Int)) ∧ IntKind.i64.wrap ((ky : Int) + (1 : Int)) ≤ IntKind.i64.wrap ((ky : Int) + (1 : Int)) ∧ 8 * (IntKind.i64.wrap ((ky : Int) + (1 : Int))).toNat ≤ 140737488355328 ∧ (IntKind.i64.wrap ((ky : Int) + (1 : Int))).toNat ≤ 140737488355328) (guardP ((0 : Int) ≤ (ky : Int) ∧ (ky : Int) ≤ (ky : Int) ∧ 8 * ((ky : Int)).toNat ≤ 140737488355328 ∧ ((ky : Int)).toNat ≤ 140737488355328) (pullD (α := Nat × (List D) × Nat × (List D)) (m_16 [.agg [.list ky cy, .one (.bool er)]]) (fun d => ((D.ln (D.at d 0)), (D.lc (D.at d 0)), (D.ln (D.at d 1)), (D.lc (D.at d 1)))) (fun (k1, c2, k3, c4) => .agg [.list k1 c2, .list k3 c4]) fun (k1, c2, k3, c4) => (bindL (runR (peaksR_L10_S ky cy er ku cu r0 k1 c2 k3 c4) (.next 0 [iD ((0 : Int)), .list ((IntKind.i64.wrap ((ky : Int) + (1 : Int))).toNat) ((List.map dCell (List.replicate (IntKind.i64.wrap ((ky : Int) + (1 : Int))).toNat (Value.int .i64 (0 : Int)).cells.toList).flatten)), .list (((ky : Int)).toNat) ((List.map dCell (List.replicate ((ky : Int)).toNat (Value.int .i64 (0 : Int)).cells.toList).flatten)), .list (k1) (c2), .list (k3) (c4), .one (.tuple #[]), .one (.tuple #[])])) fun j ds => (if j = 0 then pullD (α := Nat × (List D) × Nat × (List D) × Nat × (List D) × Nat × (List D)) (some (.tup ds)) (fun d => ((D.ln (D.at d 0)), (D.lc (D.at d 0)), (D.ln (D.at d 1)), (D.lc (D.at d 1)), (D.ln (D.at d 2)), (D.lc (D.at d 2)), (D.ln (D.at d 3)), (D.lc (D.at d 3)))) (fun (k5, c6, k7, c8, k9, c10, k11, c12) => .tup [.list k5 c6, .list k7 c8, .list k9 c10, .list k11 c12, .one (.tuple #[]), .one (.tuple #[])]) fun (k5, c6, k7, c8, k9, c10, k11, c12) => (guardP ((IntKind.i64.wrap ((ky : Int) + (1 : Int))).toNat ≤ (IntKind.i64.wrap ((ky : Int) + (1 : Int))).toNat) (guardP (((ky : Int)).toNat ≤ ((ky : Int)).toNat) (some (.tup [.agg [.list (IntKind.i64.wrap ((ky : Int) + (1 : Int))).toNat c6, .list ((ky : Int)).toNat c8], iD (0 : Int)])))) else if j = 1 then pullD (α := Int × Nat × (List D) × Nat × (List D) × Nat × (List D) × Nat × (List D)) (some (.tup ds)) (fun d => ((D.vi (D.at d 0)), (D.ln (D.at d 1)), (D.lc (D.at d 1)), (D.ln (D.at d 2)), (D.lc (D.at d 2)), (D.ln (D.at d 3)), (D.lc (D.at d 3)), (D.ln (D.at d 4)), (D.lc (D.at d 4)))) (fun (l13, k14, c15, k16, c17, k18, c19, k20, c21) => .tup [iD l13, .list k14 c15, .list k16 c17, .list k18 c19, .list k20 c21, .one (.tuple #[]), .one (.tuple #[])]) fun (l13, k14, c15, k16, c17, k18, c19, k20, c21) => (some (.tup [.agg [.list 0 [], .list 0 []], iD l13])) else none)))))))
theorem peaksR_M_ok (ky : Nat) (cy : List D) (er : Bool) (ku : Nat) (cu : List D) {r : D} (h : peaksR_M ky cy er ku cu = some r) : Con 23 [.agg [.list ky cy, .one (.bool er)], .list ku cu] r := by
  unfold peaksR_M at h
  obtain ⟨r0, f1_, h2_⟩ := pullD_elim h
  replace f1_ := m_13_ok f1_
  by_cases b3_ : r0 ≠ (0 : Int)
  · have h4_ := (if_pos b3_).symm.trans h2_
    obtain rfl := Option.some.inj h4_
    exact con_pc (op := true) (I := [23]) (sp := peaksR_sp) 3000 (bT 1 []) [iD r0] [c_b b3_] [k_c f1_] (by kernel_rfl)
  have h4_ := (if_neg b3_).symm.trans h2_
  have b5_ : r0 = (0 : Int) := by first | exact b3_ | simpa using b3_
  by_cases b6_ : (ku : Int) > (200 : Int)
  · have h7_ := (if_pos b6_).symm.trans h4_
    obtain rfl := Option.some.inj h7_
    exact con_pc (op := true) (I := [23]) (sp := peaksR_sp) 3000 (bF 1 (bT 1 [])) [iD r0] [c_bn b5_, c_d b6_] [k_c f1_] (by kernel_rfl)
  have h7_ := (if_neg b6_).symm.trans h4_
  obtain ⟨f8_, h9_⟩ := guardP_elim h7_
  obtain ⟨f10_, h11_⟩ := guardP_elim h9_
  obtain ⟨⟨k1, c2, k3, c4⟩, f12_, h13_⟩ := pullD_elim h11_
  replace f12_ := m_16_ok f12_
  obtain ⟨j, ds, e14_, h15_⟩ := bindL_elim h13_
  by_cases j16_ : j = 0
  · have h19_ := (if_pos j16_).symm.trans h15_
    clear h15_
    subst j16_
    obtain ⟨⟨k5, c6, k7, c8, k9, c10, k11, c12⟩, e17_, h20_⟩ := pullD_elim h19_
    clear h19_
    obtain rfl := tup_inj e17_
    have k18_ := peaksR_L10_in0 ky cy er ku cu r0 k1 c2 k3 c4 e14_
    obtain ⟨f21_, h22_⟩ := guardP_elim h20_
    obtain ⟨f23_, h24_⟩ := guardP_elim h22_
    obtain rfl := Option.some.inj h24_
    exact con_pc (op := true) (I := [23]) (sp := peaksR_sp) 3000 (bF 2 []) [iD r0, .agg [.list k1 c2, .list k3 c4], .tup [iD (Int.ofNat 0), .list k5 c6, .list k7 c8, .list k9 c10, .list k11 c12, .one (.tuple #[]), .one (.tuple #[])]] [c_bn b5_, c_n b6_, c_f f8_, c_f f10_, c_f f21_, c_f f23_] [k_c f1_, k_c f12_, k_l k18_ [] [.tup [iD (Int.ofNat 0), .list k5 c6, .list k7 c8, .list k9 c10, .list k11 c12, .one (.tuple #[]), .one (.tuple #[])]] []] (by kernel_rfl)
  have h25_ := (if_neg j16_).symm.trans h15_
  clear h15_
  by_cases j26_ : j = 1
  · have h29_ := (if_pos j26_).symm.trans h25_
    clear h25_
    subst j26_
    obtain ⟨⟨l13, k14, c15, k16, c17, k18, c19, k20, c21⟩, e27_, h30_⟩ := pullD_elim h29_
    clear h29_
    obtain rfl := tup_inj e27_
    have k28_ := peaksR_L10_in1 ky cy er ku cu r0 k1 c2 k3 c4 e14_
    obtain rfl := Option.some.inj h30_
    exact con_pc (op := true) (I := [23]) (sp := peaksR_sp) 3000 (bF 2 []) [iD r0, .agg [.list k1 c2, .list k3 c4], .tup [iD (Int.ofNat 1), iD l13, .list k14 c15, .list k16 c17, .list k18 c19, .list k20 c21, .one (.tuple #[]), .one (.tuple #[])]] [c_bn b5_, c_n b6_, c_f f8_, c_f f10_] [k_c f1_, k_c f12_, k_l k28_ [] [.tup [iD (Int.ofNat 1), iD l13, .list k14 c15, .list k16 c17, .list k18 c19, .list k20 c21, .one (.tuple #[]), .one (.tuple #[])]] []] (by kernel_rfl)
  have h31_ := (if_neg j26_).symm.trans h25_
  clear h25_
  cases h31_
def m_23 (ds : List D) : Option D := pullD (α := Nat × (List D) × Bool × Nat × (List D)) (some (.tup ds)) (fun d => ((D.ln (D.at (D.at d 0) 0)), (D.lc (D.at (D.at d 0) 0)), (D.vb (D.at (D.at d 0) 1)), (D.ln (D.at d 1)), (D.lc (D.at d 1)))) (fun (ky, cy, er, ku, cu) => .tup [.agg [.list ky cy, .one (.bool er)], .list ku cu]) fun (ky, cy, er, ku, cu) => peaksR_M ky cy er ku cu
theorem m_23_ok {ds : List D} {r : D} (h : m_23 ds = some r) : Con 23 ds r := by
  unfold m_23 at h
  obtain ⟨⟨ky, cy, er, ku, cu⟩, e0, h0⟩ := pullD_elim h
  obtain rfl := tup_inj e0
  exact peaksR_M_ok ky cy er ku cu h0
theorem m_23_eq (ky : Nat) (cy : List D) (er : Bool) (ku : Nat) (cu : List D) : m_23 [.agg [.list ky cy, .one (.bool er)], .list ku cu] = peaksR_M ky cy er ku cu := pullD_some (ky, cy, er, ku, cu) rfl rfl
end
end Go.Proofs.Ytfdehaafbkhclaa
namespace Go.Proofs.Ytfdehaafbkhclaa
open Go.Ev Go.RowKit
set_option maxRecDepth 100000
set_option maxHeartbeats 8000000
set_option linter.all false
noncomputable section
def law4_sp : List LSpec := []
def law4_M (ky : Nat) (cy : List D) (er : Bool) (ku : Nat) (cu : List D) : Option D := pullD (α := Bool) (m_6 []) (fun d => ((D.vb d))) (fun r0 => .one (.bool r0)) fun r0 => ((if r0 = false then some (.one (.bool false)) else pullD (α := Bool) (m_7 [.agg [.list ky cy, .one (.bool er)]]) (fun d => ((D.vb d))) (fun r1 => .one (.bool r1)) fun r1 => ((if r1 = false then some (.one (.bool true)) else (if (ku : Int) > (60 : Int) then (if (ku : Int) ≤ (200 : Int) then some (.one (.bool true)) else (if (ku : Int) > (202 : Int) then some (.one (.bool true)) else pullD (α := Nat × (List D) × Bool) (m_9 [.agg [.list ky cy, .one (.bool er)]]) (fun d => ((D.ln (D.at d 0)), (D.lc (D.at d 0)), (D.vb (D.at d 1)))) (fun (k2, c3, r4) => .agg [.list k2 c3, .one (.bool r4)]) fun (k2, c3, r4) => (pullD (α := Nat × (List D)) (m_22 [.list ku cu]) (fun d => ((D.ln d), (D.lc d))) (fun (k5, c6) => .list k5 c6) fun (k5, c6) => (pullD (α := Nat × (List D) × Nat × (List D) × Int) (m_21 [.agg [.list k2 c3, .one (.bool r4)], .list k5 c6]) (fun d => ((D.ln (D.at (D.at d 0) 0)), (D.lc (D.at (D.at d 0) 0)), (D.ln (D.at (D.at d 0) 1)), (D.lc (D.at (D.at d 0) 1)), (D.vi (D.at d 1)))) (fun (k7, c8, k9, c10, r11) => .tup [.agg [.list k7 c8, .list k9 c10], iD r11]) fun (k7, c8, k9, c10, r11) => (pullD (α := Nat × (List D) × Nat × (List D) × Int) (m_23 [.agg [.list ky cy, .one (.bool er)], .list ku cu]) (fun d => ((D.ln (D.at (D.at d 0) 0)), (D.lc (D.at (D.at d 0) 0)), (D.ln (D.at (D.at d 0) 1)), (D.lc (D.at (D.at d 0) 1)), (D.vi (D.at d 1)))) (fun (k12, c13, k14, c15, r16) => .tup [.agg [.list k12 c13, .list k14 c15], iD r16]) fun (k12, c13, k14, c15, r16) => ((if r11 = r16 then pullD (α := Bool) (m_19 [.list k7 c8, .list k12 c13]) (fun d => ((D.vb d))) (fun r17 => .one (.bool r17)) fun r17 => ((if (r17) = true then pullD (α := Bool) (m_19 [.list k9 c10, .list k14 c15]) (fun d => ((D.vb d))) (fun r18 => .one (.bool r18)) fun r18 => (some (.one (.bool r18))) else some (.one (.bool false)))) else some (.one (.bool false))))))))) else (if (ku : Int) > (202 : Int) then some (.one (.bool true)) else pullD (α := Nat × (List D) × Bool) (m_9 [.agg [.list ky cy, .one (.bool er)]]) (fun d => ((D.ln (D.at d 0)), (D.lc (D.at d 0)), (D.vb (D.at d 1)))) (fun (k19, c20, r21) => .agg [.list k19 c20, .one (.bool r21)]) fun (k19, c20, r21) => (pullD (α := Nat × (List D)) (m_22 [.list ku cu]) (fun d => ((D.ln d), (D.lc d))) (fun (k22, c23) => .list k22 c23) fun (k22, c23) => (pullD (α := Nat × (List D) × Nat × (List D) × Int) (m_21 [.agg [.list k19 c20, .one (.bool r21)], .list k22 c23]) (fun d => ((D.ln (D.at (D.at d 0) 0)), (D.lc (D.at (D.at d 0) 0)), (D.ln (D.at (D.at d 0) 1)), (D.lc (D.at (D.at d 0) 1)), (D.vi (D.at d 1)))) (fun (k24, c25, k26, c27, r28) => .tup [.agg [.list k24 c25, .list k26 c27], iD r28]) fun (k24, c25, k26, c27, r28) => (pullD (α := Nat × (List D) × Nat × (List D) × Int) (m_23 [.agg [.list ky cy, .one (.bool er)], .list ku cu]) (fun d => ((D.ln (D.at (D.at d 0) 0)), (D.lc (D.at (D.at d 0) 0)), (D.ln (D.at (D.at d 0) 1)), (D.lc (D.at (D.at d 0) 1)), (D.vi (D.at d 1)))) (fun (k29, c30, k31, c32, r33) => .tup [.agg [.list k29 c30, .list k31 c32], iD r33]) fun (k29, c30, k31, c32, r33) => ((if r28 = r33 then pullD (α := Bool) (m_19 [.list k24 c25, .list k29 c30]) (fun d => ((D.vb d))) (fun r34 => .one (.bool r34)) fun r34 => ((if (r34) = true then pullD (α := Bool) (m_19 [.list k26 c27, .list k31 c32]) (fun d => ((D.vb d))) (fun r35 => .one (.bool r35)) fun r35 => (some (.one (.bool r35))) else some (.one (.bool false)))) else some (.one (.bool false)))))))))))))
theorem law4_M_ok (ky : Nat) (cy : List D) (er : Bool) (ku : Nat) (cu : List D) {r : D} (h : law4_M ky cy er ku cu = some r) : Con 4 [.agg [.list ky cy, .one (.bool er)], .list ku cu] r := by
  unfold law4_M at h
  obtain ⟨r0, f1_, h2_⟩ := pullD_elim h
  replace f1_ := m_6_ok f1_
  by_cases b3_ : r0 = false
  · have h4_ := (if_pos b3_).symm.trans h2_
    obtain rfl := Option.some.inj h4_
    exact con_pc (op := true) (I := [4]) (sp := law4_sp) 3000 (bT 1 []) [.one (.bool r0)] [c_no b3_] [k_c f1_] (by kernel_rfl)
  have h4_ := (if_neg b3_).symm.trans h2_
  have b5_ : r0 = true := by first | exact b3_ | simpa using b3_
  obtain ⟨r1, f6_, h7_⟩ := pullD_elim h4_
  replace f6_ := m_7_ok f6_
  by_cases b8_ : r1 = false
  · have h9_ := (if_pos b8_).symm.trans h7_
    obtain rfl := Option.some.inj h9_
    exact con_pc (op := true) (I := [4]) (sp := law4_sp) 3000 (bF 1 (bT 11 [])) [.one (.bool r0), .one (.bool r1)] [c_nn b5_, c_no b8_, c_no b8_, c_no b8_, c_no b8_, c_no b8_, c_no b8_, c_T, c_T, c_T, c_T, c_T] [k_c f1_, k_c f6_] (by kernel_rfl)
  have h9_ := (if_neg b8_).symm.trans h7_
  have b10_ : r1 = true := by first | exact b8_ | simpa using b8_
  by_cases b11_ : (ku : Int) > (60 : Int)
  · have h12_ := (if_pos b11_).symm.trans h9_
    by_cases b13_ : (ku : Int) ≤ (200 : Int)
    · have h14_ := (if_pos b13_).symm.trans h12_
      obtain rfl := Option.some.inj h14_
      exact con_pc (op := true) (I := [4]) (sp := law4_sp) 3000 (bF 5 (bT 3 (bF 1 (bT 1 (bF 1 (bT 5 [])))))) [.one (.bool r0), .one (.bool r1)] [c_nn b5_, c_nn b10_, c_nn b10_, c_nn b10_, c_nn b10_, c_d b11_, c_d b11_, c_d b11_, c_nn b10_, c_d b11_, c_nn b10_, c_d b13_, c_d b13_, c_d b13_, c_d b13_, c_T] [k_c f1_, k_c f6_] (by kernel_rfl)
    have h14_ := (if_neg b13_).symm.trans h12_
    by_cases b15_ : (ku : Int) > (202 : Int)
    · have h16_ := (if_pos b15_).symm.trans h14_
      obtain rfl := Option.some.inj h16_
      exact con_pc (op := true) (I := [4]) (sp := law4_sp) 3000 (bF 5 (bT 3 (bF 1 (bT 1 (bF 5 (bT 1 [])))))) [.one (.bool r0), .one (.bool r1)] [c_nn b5_, c_nn b10_, c_nn b10_, c_nn b10_, c_nn b10_, c_d b11_, c_d b11_, c_d b11_, c_nn b10_, c_d b11_, c_nn b10_, c_n b13_, c_n b13_, c_n b13_, c_n b13_, c_d b15_] [k_c f1_, k_c f6_] (by kernel_rfl)
    have h16_ := (if_neg b15_).symm.trans h14_
    obtain ⟨⟨k2, c3, r4⟩, f17_, h18_⟩ := pullD_elim h16_
    replace f17_ := m_9_ok f17_
    obtain ⟨⟨k5, c6⟩, f19_, h20_⟩ := pullD_elim h18_
    replace f19_ := m_22_ok f19_
    obtain ⟨⟨k7, c8, k9, c10, r11⟩, f21_, h22_⟩ := pullD_elim h20_
    replace f21_ := m_21_ok f21_
    obtain ⟨⟨k12, c13, k14, c15, r16⟩, f23_, h24_⟩ := pullD_elim h22_
    replace f23_ := m_23_ok f23_
    by_cases b25_ : r11 = r16
    · have h26_ := (if_pos b25_).symm.trans h24_
      obtain ⟨r17, f27_, h28_⟩ := pullD_elim h26_
      replace f27_ := m_19_ok f27_
      by_cases b29_ : (r17) = true
      · have h30_ := (if_pos b29_).symm.trans h28_
        obtain ⟨r18, f31_, h32_⟩ := pullD_elim h30_
        replace f31_ := m_19_ok f31_
        obtain rfl := Option.some.inj h32_
        exact con_pc (op := true) (I := [4]) (sp := law4_sp) 3000 (bF 5 (bT 3 (bF 1 (bT 1 (bF 6 (bT 12 [])))))) [.one (.bool r0), .one (.bool r1), .agg [.list k2 c3, .one (.bool r4)], .list k5 c6, .tup [.agg [.list k7 c8, .list k9 c10], iD r11], .tup [.agg [.list k12 c13, .list k14 c15], iD r16], .one (.bool r17), .one (.bool r18)] [c_nn b5_, c_nn b10_, c_nn b10_, c_nn b10_, c_nn b10_, c_d b11_, c_d b11_, c_d b11_, c_nn b10_, c_d b11_, c_nn b10_, c_n b13_, c_n b13_, c_n b13_, c_n b13_, c_n b15_, c_e b25_, c_e b25_, c_e b25_, c_e b25_, c_e b25_, c_e b25_, c_q b29_, c_q b29_, c_q b29_, c_q b29_, c_q b29_, c_q b29_] [k_c f1_, k_c f6_, k_c f17_, k_c f19_, k_c f21_, k_c f23_, k_c f27_, k_c f31_] (by kernel_rfl)
      have h30_ := (if_neg b29_).symm.trans h28_
      have b33_ : (r17) = false := by first | exact b29_ | simpa using b29_
      obtain rfl := Option.some.inj h30_
      exact con_pc (op := true) (I := [4]) (sp := law4_sp) 3000 (bF 5 (bT 3 (bF 1 (bT 1 (bF 6 (bT 6 (bF 6 []))))))) [.one (.bool r0), .one (.bool r1), .agg [.list k2 c3, .one (.bool r4)], .list k5 c6, .tup [.agg [.list k7 c8, .list k9 c10], iD r11], .tup [.agg [.list k12 c13, .list k14 c15], iD r16], .one (.bool r17)] [c_nn b5_, c_nn b10_, c_nn b10_, c_nn b10_, c_nn b10_, c_d b11_, c_d b11_, c_d b11_, c_nn b10_, c_d b11_, c_nn b10_, c_n b13_, c_n b13_, c_n b13_, c_n b13_, c_n b15_, c_e b25_, c_e b25_, c_e b25_, c_e b25_, c_e b25_, c_e b25_, c_q b33_, c_q b33_, c_q b33_, c_q b33_, c_q b33_, c_q b33_] [k_c f1_, k_c f6_, k_c f17_, k_c f19_, k_c f21_, k_c f23_, k_c f27_] (by kernel_rfl)
    have h26_ := (if_neg b25_).symm.trans h24_
    have b34_ : r11 ≠ r16 := by first | exact b25_ | simpa using b25_
    obtain rfl := Option.some.inj h26_
    exact con_pc (op := true) (I := [4]) (sp := law4_sp) 3000 (bF 5 (bT 3 (bF 1 (bT 1 (bF 18 []))))) [.one (.bool r0), .one (.bool r1), .agg [.list k2 c3, .one (.bool r4)], .list k5 c6, .tup [.agg [.list k7 c8, .list k9 c10], iD r11], .tup [.agg [.list k12 c13, .list k14 c15], iD r16]] [c_nn b5_, c_nn b10_, c_nn b10_, c_nn b10_, c_nn b10_, c_d b11_, c_d b11_, c_d b11_, c_nn b10_, c_d b11_, c_nn b10_, c_n b13_, c_n b13_, c_n b13_, c_n b13_, c_n b15_, c_en b34_, c_en b34_, c_en b34_, c_en b34_, c_en b34_, c_en b34_, c_F, c_F, c_F, c_F, c_F, c_F] [k_c f1_, k_c f6_, k_c f17_, k_c f19_, k_c f21_, k_c f23_] (by kernel_rfl)
  have h12_ := (if_neg b11_).symm.trans h9_
  by_cases b35_ : (ku : Int) > (202 : Int)
  · have h36_ := (if_pos b35_).symm.trans h12_
    obtain rfl := Option.some.inj h36_
    exact con_pc (op := true) (I := [4]) (sp := law4_sp) 3000 (bF 15 (bT 1 [])) [.one (.bool r0), .one (.bool r1)] [c_nn b5_, c_nn b10_, c_nn b10_, c_nn b10_, c_nn b10_, c_n b11_, c_n b11_, c_n b11_, c_nn b10_, c_n b11_, c_nn b10_, c_F, c_F, c_F, c_F, c_d b35_] [k_c f1_, k_c f6_] (by kernel_rfl)
  have h36_ := (if_neg b35_).symm.trans h12_
  obtain ⟨⟨k19, c20, r21⟩, f37_, h38_⟩ := pullD_elim h36_
  replace f37_ := m_9_ok f37_
  obtain ⟨⟨k22, c23⟩, f39_, h40_⟩ := pullD_elim h38_
  replace f39_ := m_22_ok f39_
  obtain ⟨⟨k24, c25, k26, c27, r28⟩, f41_, h42_⟩ := pullD_elim h40_
  replace f41_ := m_21_ok f41_
  obtain ⟨⟨k29, c30, k31, c32, r33⟩, f43_, h44_⟩ := pullD_elim h42_
  replace f43_ := m_23_ok f43_
  by_cases b45_ : r28 = r33
  · have h46_ := (if_pos b45_).symm.trans h44_
    obtain ⟨r34, f47_, h48_⟩ := pullD_elim h46_
    replace f47_ := m_19_ok f47_
    by_cases b49_ : (r34) = true
    · have h50_ := (if_pos b49_).symm.trans h48_
      obtain ⟨r35, f51_, h52_⟩ := pullD_elim h50_
      replace f51_ := m_19_ok f51_
      obtain rfl := Option.some.inj h52_
      exact con_pc (op := true) (I := [4]) (sp := law4_sp) 3000 (bF 16 (bT 12 [])) [.one (.bool r0), .one (.bool r1), .agg [.list k19 c20, .one (.bool r21)], .list k22 c23, .tup [.agg [.list k24 c25, .list k26 c27], iD r28], .tup [.agg [.list k29 c30, .list k31 c32], iD r33], .one (.bool r34), .one (.bool r35)] [c_nn b5_, c_nn b10_, c_nn b10_, c_nn b10_, c_nn b10_, c_n b11_, c_n b11_, c_n b11_, c_nn b10_, c_n b11_, c_nn b10_, c_F, c_F, c_F, c_F, c_n b35_, c_e b45_, c_e b45_, c_e b45_, c_e b45_, c_e b45_, c_e b45_, c_q b49_, c_q b49_, c_q b49_, c_q b49_, c_q b49_, c_q b49_] [k_c f1_, k_c f6_, k_c f37_, k_c f39_, k_c f41_, k_c f43_, k_c f47_, k_c f51_] (by kernel_rfl)
    have h50_ := (if_neg b49_).symm.trans h48_
    have b53_ : (r34) = false := by first | exact b49_ | simpa using b49_
    obtain rfl := Option.some.inj h50_
    exact con_pc (op := true) (I := [4]) (sp := law4_sp) 3000 (bF 16 (bT 6 (bF 6 []))) [.one (.bool r0), .one (.bool r1), .agg [.list k19 c20, .one (.bool r21)], .list k22 c23, .tup [.agg [.list k24 c25, .list k26 c27], iD r28], .tup [.agg [.list k29 c30, .list k31 c32], iD r33], .one (.bool r34)] [c_nn b5_, c_nn b10_, c_nn b10_, c_nn b10_, c_nn b10_, c_n b11_, c_n b11_, c_n b11_, c_nn b10_, c_n b11_, c_nn b10_, c_F, c_F, c_F, c_F, c_n b35_, c_e b45_, c_e b45_, c_e b45_, c_e b45_, c_e b45_, c_e b45_, c_q b53_, c_q b53_, c_q b53_, c_q b53_, c_q b53_, c_q b53_] [k_c f1_, k_c f6_, k_c f37_, k_c f39_, k_c f41_, k_c f43_, k_c f47_] (by kernel_rfl)
  have h46_ := (if_neg b45_).symm.trans h44_
  have b54_ : r28 ≠ r33 := by first | exact b45_ | simpa using b45_
  obtain rfl := Option.some.inj h46_
  exact con_pc (op := true) (I := [4]) (sp := law4_sp) 3000 (bF 28 []) [.one (.bool r0), .one (.bool r1), .agg [.list k19 c20, .one (.bool r21)], .list k22 c23, .tup [.agg [.list k24 c25, .list k26 c27], iD r28], .tup [.agg [.list k29 c30, .list k31 c32], iD r33]] [c_nn b5_, c_nn b10_, c_nn b10_, c_nn b10_, c_nn b10_, c_n b11_, c_n b11_, c_n b11_, c_nn b10_, c_n b11_, c_nn b10_, c_F, c_F, c_F, c_F, c_n b35_, c_en b54_, c_en b54_, c_en b54_, c_en b54_, c_en b54_, c_en b54_, c_F, c_F, c_F, c_F, c_F, c_F] [k_c f1_, k_c f6_, k_c f37_, k_c f39_, k_c f41_, k_c f43_] (by kernel_rfl)
def m_4 (ds : List D) : Option D := pullD (α := Nat × (List D) × Bool × Nat × (List D)) (some (.tup ds)) (fun d => ((D.ln (D.at (D.at d 0) 0)), (D.lc (D.at (D.at d 0) 0)), (D.vb (D.at (D.at d 0) 1)), (D.ln (D.at d 1)), (D.lc (D.at d 1)))) (fun (ky, cy, er, ku, cu) => .tup [.agg [.list ky cy, .one (.bool er)], .list ku cu]) fun (ky, cy, er, ku, cu) => law4_M ky cy er ku cu
theorem m_4_ok {ds : List D} {r : D} (h : m_4 ds = some r) : Con 4 ds r := by
  unfold m_4 at h
  obtain ⟨⟨ky, cy, er, ku, cu⟩, e0, h0⟩ := pullD_elim h
  obtain rfl := tup_inj e0
  exact law4_M_ok ky cy er ku cu h0
theorem m_4_eq (ky : Nat) (cy : List D) (er : Bool) (ku : Nat) (cu : List D) : m_4 [.agg [.list ky cy, .one (.bool er)], .list ku cu] = law4_M ky cy er ku cu := pullD_some (ky, cy, er, ku, cu) rfl rfl
end
end Go.Proofs.Ytfdehaafbkhclaa
/- Peaks: both ways step by step. -/
namespace Go.Proofs.Ytfdehaafbkhclaa
open Go.Ev Go.RowKit
set_option maxRecDepth 100000
def dg (n : Int) : Int := if IntKind.i64.wrap (0 - n) > n then IntKind.i64.wrap (0 - n) else n
theorem sizeOf_eq (n : Int) : m_58 [iD n] = some (iD (dg n)) := by rw [m_58_eq]; rfl
theorem size_eq (n : Int) : m_43 [iD n] = some (iD (dg n)) := by rw [m_43_eq]; rfl
def rN (w N : List Int) (n i : Nat) : List Int := tab (n + 1) fun j => if j < i then (if dg (at' w j) > at' N j then dg (at' w j) else at' N j) else at' N j
def rG (w G : List Int) (n i : Nat) : List Int := tab n fun j => if j < i then (if dg (IntKind.i64.wrap (at' w j - at' w (j + 1))) > at' G j then dg (IntKind.i64.wrap (at' w j - at' w (j + 1))) else at' G j) else at' G j
theorem rN_zero {w N : List Int} {n : Nat} (h : N.length = n + 1) : rN w N n 0 = N := by
  unfold rN
  rw [show (tab (n + 1) fun j => if j < 0 then (if dg (at' w j) > at' N j then dg (at' w j) else at' N j) else at' N j) = tab (n + 1) (at' N) from tab_congr fun j _ => if_neg (by omega), ← h]
  exact tab_of N
theorem rG_zero {w G : List Int} {n : Nat} (h : G.length = n) : rG w G n 0 = G := by
  unfold rG
  rw [show (tab n fun j => if j < 0 then (if dg (IntKind.i64.wrap (at' w j - at' w (j + 1))) > at' G j then dg (IntKind.i64.wrap (at' w j - at' w (j + 1))) else at' G j) else at' G j) = tab n (at' G) from tab_congr fun j _ => if_neg (by omega), ← h]
  exact tab_of G
theorem rN_len (w N : List Int) (n i : Nat) : (rN w N n i).length = n + 1 := tab_len _ _
theorem rG_len (w G : List Int) (n i : Nat) : (rG w G n i).length = n := tab_len _ _
theorem rN_at {w N : List Int} {n i : Nat} (hi : i < n + 1) : at' (rN w N n i) i = at' N i := by
  unfold rN; rw [tab_at _ hi, if_neg (by omega)]
theorem rG_at {w G : List Int} {n i : Nat} (hi : i < n) : at' (rG w G n i) i = at' G i := by
  unfold rG; rw [tab_at _ hi, if_neg (by omega)]
theorem rN_set {w N : List Int} {n i : Nat} : (rN w N n i).set i (if dg (at' w i) > at' N i then dg (at' w i) else at' N i) = rN w N n (i + 1) := by
  unfold rN
  rw [tab_set]
  refine tab_congr fun j _ => ?_
  by_cases h : j = i
  · subst h; rw [if_pos rfl, if_pos (show j < j + 1 by omega)]
  · rw [if_neg h]
    by_cases h1 : j < i
    · rw [if_pos h1, if_pos (show j < i + 1 by omega)]
    · rw [if_neg h1, if_neg (show ¬ j < i + 1 by omega)]
theorem rG_set {w G : List Int} {n i : Nat} : (rG w G n i).set i (if dg (IntKind.i64.wrap (at' w i - at' w (i + 1))) > at' G i then dg (IntKind.i64.wrap (at' w i - at' w (i + 1))) else at' G i) = rG w G n (i + 1) := by
  unfold rG
  rw [tab_set]
  refine tab_congr fun j _ => ?_
  by_cases h : j = i
  · subst h; rw [if_pos rfl, if_pos (show j < j + 1 by omega)]
  · rw [if_neg h]
    by_cases h1 : j < i
    · rw [if_pos h1, if_pos (show j < i + 1 by omega)]
    · rw [if_neg h1, if_neg (show ¬ j < i + 1 by omega)]
theorem rG_more {w G : List Int} {n i : Nat} (h : n ≤ i) : rG w G n (i + 1) = rG w G n i := by
  unfold rG
  refine tab_congr fun j hj => ?_
  rw [if_pos (show j < i + 1 by omega), if_pos (show j < i by omega)]
section
variable {y N G w : List Int} {er : Bool} {ku : Nat} {cu : List D}
theorem nodes_go (hle : y.length ≤ 10) (hw : w.length = y.length + 1) (hN : N.length = y.length + 1) (x0 : Nat) (x1 : List D) (x2 : Nat) (x3 : List D) (x4 x5 : Int) (x6 x7 : List D) (x8 : Nat) (x9 : List D) (x10 : Nat) (x11 : List D) (x12 : Nat) (x13 : List D) (x14 : Nat) (x15 : List D) :
    runR (peaksOf_L42_2_S y.length (y.map iD) er ku cu x0 x1 x2 x3 x4 x5 x6 x7 x8 x9 x10 x11 x12 x13 x14 x15 w.length (w.map iD)) (.next 0 [iD 0, .list (y.length + 1) (N.map iD)]) = some (.out 0 [.list (y.length + 1) ((rN w N y.length (y.length + 1)).map iD)]) := by
  have ep : IntKind.i64.wrap ((y.length : Int) + 1) = ((y.length + 1 : Nat) : Int) := natI (by omega)
  have h1 := runR_scan (S := peaksOf_L42_2_S y.length (y.map iD) er ku cu x0 x1 x2 x3 x4 x5 x6 x7 x8 x9 x10 x11 x12 x13 x14 x15 w.length (w.map iD)) (fun _ => 0) (fun i => [iD (i : Int), .list (y.length + 1) ((rN w N y.length i).map iD)]) (Nat.zero_le (y.length + 1)) (fun i _ hi => by
    have l1 := rN_len w N y.length i
    show peaksOf_L42_2_S0 y.length (y.map iD) er ku cu x0 x1 x2 x3 x4 x5 x6 x7 x8 x9 x10 x11 x12 x13 x14 x15 w.length (w.map iD) _ = _
    unfold peaksOf_L42_2_S0
    rw [pullD_some ((i : Int), y.length + 1, (rN w N y.length i).map iD) (by rfl) (by rfl)]
    dsimp only
    have e2 : IntKind.i64.wrap ((i : Int) + 1) = ((i + 1 : Nat) : Int) := natI (by omega)
    simp only [e2, ep, Int.toNat_natCast]
    rw [if_pos (by omega), guardP_pos (by omega), readN (by omega), pullD_some (at' w i) (by rfl) (by rfl), guardP_pos (by omega), readN0 (by omega), pullD_some (at' (rN w N y.length i) i) (by rfl) (by rfl), sizeOf_eq, pullI, guardP_pos ⟨by simp only [List.length_map]; omega, cellD_int _⟩, set_list _ _ _ (by omega), rN_at hi, rN_set])
  rw [rN_zero hN] at h1
  refine h1.trans (runR_exit ?_)
  show peaksOf_L42_2_S0 y.length (y.map iD) er ku cu x0 x1 x2 x3 x4 x5 x6 x7 x8 x9 x10 x11 x12 x13 x14 x15 w.length (w.map iD) _ = _
  unfold peaksOf_L42_2_S0
  rw [pullD_some (((y.length + 1 : Nat) : Int), y.length + 1, (rN w N y.length (y.length + 1)).map iD) (by rfl) (by rfl)]
  dsimp only
  rw [if_neg (by omega), ep, Int.toNat_natCast]
theorem gaps_go (hle : y.length ≤ 10) (hw : w.length = y.length + 1) (hG : G.length = y.length) (x0 : Nat) (x1 : List D) (x2 : Nat) (x3 : List D) (x4 x5 : Int) (x6 : List D) (x8 : Nat) (x9 : List D) (x10 : Nat) (x11 : List D) (x12 : Nat) (x13 : List D) (x14 : Nat) (x15 x17 : List D) :
    runR (peaksOf_L42_7_S y.length (y.map iD) er ku cu x0 x1 x2 x3 x4 x5 x6 x8 x9 x10 x11 x12 x13 x14 x15 w.length (w.map iD) x17) (.next 0 [iD 0, .list y.length (G.map iD)]) = some (.out 0 [.list y.length ((rG w G y.length y.length).map iD)]) := by
  have h1 := runR_scan (S := peaksOf_L42_7_S y.length (y.map iD) er ku cu x0 x1 x2 x3 x4 x5 x6 x8 x9 x10 x11 x12 x13 x14 x15 w.length (w.map iD) x17) (fun _ => 0) (fun i => [iD (i : Int), .list y.length ((rG w G y.length i).map iD)]) (Nat.zero_le y.length) (fun i _ hi => by
    have l1 := rG_len w G y.length i
    show peaksOf_L42_7_S0 y.length (y.map iD) er ku cu x0 x1 x2 x3 x4 x5 x6 x8 x9 x10 x11 x12 x13 x14 x15 w.length (w.map iD) x17 _ = _
    unfold peaksOf_L42_7_S0
    rw [pullD_some ((i : Int), y.length, (rG w G y.length i).map iD) (by rfl) (by rfl)]
    dsimp only
    have e2 : IntKind.i64.wrap ((i : Int) + 1) = ((i + 1 : Nat) : Int) := natI (by omega)
    simp only [e2, Int.toNat_natCast]
    rw [if_pos (by omega), guardP_pos (by omega), readN0 (by omega), pullD_some (at' (rG w G y.length i) i) (by rfl) (by rfl), guardP_pos (by omega), readN (by omega), pullD_some (at' w i) (by rfl) (by rfl), guardP_pos (by omega), readN (by omega), pullD_some (at' w (i + 1)) (by rfl) (by rfl), sizeOf_eq, pullI, guardP_pos ⟨by simp only [List.length_map]; omega, cellD_int _⟩, set_list _ _ _ (by omega), rG_at hi, rG_set])
  rw [rG_zero hG] at h1
  refine h1.trans (runR_exit ?_)
  show peaksOf_L42_7_S0 y.length (y.map iD) er ku cu x0 x1 x2 x3 x4 x5 x6 x8 x9 x10 x11 x12 x13 x14 x15 w.length (w.map iD) x17 _ = _
  unfold peaksOf_L42_7_S0
  rw [pullD_some ((y.length : Int), y.length, (rG w G y.length y.length).map iD) (by rfl) (by rfl)]
  dsimp only
  rw [Int.toNat_natCast, if_neg (by omega)]
theorem both_go (hle : y.length ≤ 10) (hw : w.length = y.length + 1) (hN : N.length = y.length + 1) (hG : G.length = y.length) (x0 : Int) (x1 : Nat) (x2 : List D) (x3 : Nat) (x4 : List D) (x5 : Int) (x6 x7 : List D) (x8 : Nat) (x9 : List D) (x10 : Nat) (x11 : List D) (x12 : Int) (x13 : Nat) (x14 : List D) (x15 : Nat) (x16 : List D) (x19 : Int) :
    runR (peaksR_L16_S y.length (y.map iD) er ku cu x0 x1 x2 x3 x4 x5 x6 x7 x8 x9 x10 x11 x12 x13 x14 x15 x16 w.length (w.map iD) x19) (.next 0 [iD 0, .list (y.length + 1) (N.map iD), .list y.length (G.map iD)]) = some (.out 0 [.list (y.length + 1) ((rN w N y.length (y.length + 1)).map iD), .list y.length ((rG w G y.length y.length).map iD)]) := by
  have ep : IntKind.i64.wrap ((y.length : Int) + 1) = ((y.length + 1 : Nat) : Int) := natI (by omega)
  have h1 := runR_scan (S := peaksR_L16_S y.length (y.map iD) er ku cu x0 x1 x2 x3 x4 x5 x6 x7 x8 x9 x10 x11 x12 x13 x14 x15 x16 w.length (w.map iD) x19) (fun _ => 0) (fun i => [iD (i : Int), .list (y.length + 1) ((rN w N y.length i).map iD), .list y.length ((rG w G y.length i).map iD)]) (Nat.zero_le (y.length + 1)) (fun i _ hi => by
    have l1 := rN_len w N y.length i
    have l2 := rG_len w G y.length i
    show peaksR_L16_S0 y.length (y.map iD) er ku cu x0 x1 x2 x3 x4 x5 x6 x7 x8 x9 x10 x11 x12 x13 x14 x15 x16 w.length (w.map iD) x19 _ = _
    unfold peaksR_L16_S0
    rw [pullD_some ((i : Int), y.length + 1, (rN w N y.length i).map iD, y.length, (rG w G y.length i).map iD) (by rfl) (by rfl)]
    dsimp only
    have e2 : IntKind.i64.wrap ((i : Int) + 1) = ((i + 1 : Nat) : Int) := natI (by omega)
    simp only [e2, ep, Int.toNat_natCast]
    rw [if_pos (by omega), guardP_pos (by omega), readN0 (by omega), pullD_some (at' (rN w N y.length i) i) (by rfl) (by rfl), guardP_pos (by omega), readN (by omega), pullD_some (at' w i) (by rfl) (by rfl), size_eq, pullI, guardP_pos ⟨by simp only [List.length_map]; omega, cellD_int _⟩, rN_at hi, set_list _ _ _ (by omega), rN_set]
    by_cases q : i < y.length
    · rw [if_pos (by omega), guardP_pos (by omega), readN0 (by omega), pullD_some (at' (rG w G y.length i) i) (by rfl) (by rfl), pullD_some (at' w i) (by rfl) (by rfl), guardP_pos (by omega), readN (by omega), pullD_some (at' w (i + 1)) (by rfl) (by rfl), size_eq, pullI, guardP_pos ⟨by simp only [List.length_map]; omega, cellD_int _⟩, rG_at q, set_list _ _ _ (by omega), rG_set]
    · rw [if_neg (by omega), rG_more (by omega)])
  rw [rN_zero hN, rG_zero hG] at h1
  refine h1.trans (runR_exit ?_)
  show peaksR_L16_S0 y.length (y.map iD) er ku cu x0 x1 x2 x3 x4 x5 x6 x7 x8 x9 x10 x11 x12 x13 x14 x15 x16 w.length (w.map iD) x19 _ = _
  unfold peaksR_L16_S0
  rw [pullD_some (((y.length + 1 : Nat) : Int), y.length + 1, (rN w N y.length (y.length + 1)).map iD, y.length, (rG w G y.length (y.length + 1)).map iD) (by rfl) (by rfl)]
  dsimp only
  rw [if_neg (by omega), ep, Int.toNat_natCast, Int.toNat_natCast, rG_more (by omega)]
end
end Go.Proofs.Ytfdehaafbkhclaa
/- Peaks: the law. -/
namespace Go.Proofs.Ytfdehaafbkhclaa
open Go.Ev Go.RowKit
set_option maxRecDepth 100000
theorem chkCount0 (n : Nat) : m_38 [iD (n : Int), iD 0, iD 200] = some (iD (if (n : Int) > 200 then 8 else 0)) := by
  rw [m_38_eq]
  unfold chkCount_M
  rw [if_neg (by omega)]
  by_cases h1 : (n : Int) > 200
  · rw [if_pos h1, if_pos h1]
  · rw [if_neg h1, if_neg h1]
theorem allIn_zs (n : Nat) (lo hi : Int) (h : lo ≤ 0 ∧ 0 ≤ hi) : allIn lo hi (zs n) = true := by
  unfold allIn
  rw [List.all_eq_true]
  intro x hx
  simp only [zs, tab, List.mem_map] at hx
  obtain ⟨_, _, rfl⟩ := hx
  simpa using h
section
variable {y : List Int}
theorem stE_zs (h : lineE y = 0) : stE y (zs y.length) (zs y.length) = 0 := by
  have e : wavE (zs y.length) = 0 := by unfold wavE; rw [if_pos (allIn_zs _ _ _ (by decide))]
  unfold stE ckE
  rw [if_neg (by omega), if_neg (by simp [tab_len]), if_neg (by simp [tab_len]), e]
  rfl
theorem stE_of {a b u v : List Int} (h : stE y a b = 0) (hu : u.length = y.length) (hv : v.length = y.length) (wu : ¬ wavE u ≠ 0) (wv : ¬ wavE v ≠ 0) : stE y u v = 0 := by
  obtain ⟨e1, _⟩ := stE_len h
  unfold stE ckE
  rw [if_neg (by omega), if_neg (by omega), if_neg (by omega), if_neg wu]
  omega
/-- What a step gives. -/
theorem stepV_cases {a b : List Int} (h0 : stE y a b = 0) (er : Bool) (src : Int) : (∃ u v w e, e ≠ 0 ∧ (u : List Int).length ≤ 1000 ∧ (if -1000000 ≤ src ∧ src ≤ 1000000 then stepV y a b er src else noSt 2) = .tup [stD u v, lD w, iD e]) ∨ (∃ u v w, stE y u v = 0 ∧ (w : List Int).length = y.length + 1 ∧ (if -1000000 ≤ src ∧ src ≤ 1000000 then stepV y a b er src else noSt 2) = .tup [stD u v, lD w, iD 0]) := by
  have h := ok_of h0
  by_cases hs : -1000000 ≤ src ∧ src ≤ 1000000
  · rw [if_pos hs]
    unfold stepV
    by_cases p : wavE (tab y.length (fwF y a b src)) ≠ 0
    · rw [if_pos p]; exact .inl ⟨[], [], [], 22, by decide, by decide, rfl⟩
    rw [if_neg p]
    by_cases p2 : wavE (tab y.length (bkF y a b er y.length)) ≠ 0
    · rw [if_pos p2]; exact .inl ⟨[], [], [], 22, by decide, by decide, rfl⟩
    · rw [if_neg p2]
      exact .inr ⟨_, _, _, stE_of h0 (tab_len _ _) (tab_len _ _) p p2, tab_len _ _, rfl⟩
  · rw [if_neg hs]; exact .inl ⟨[], [], [], 2, by decide, by decide, rfl⟩
abbrev pkS (y N G u v : List Int) : List D := [.list (y.length + 1) (N.map iD), .list y.length (G.map iD), .list u.length (u.map iD), .list v.length (v.map iD), .one (.tuple #[]), .one (.tuple #[])]
theorem peaks_go (er : Bool) (src : List Int) (hsl : src.length ≤ 1000) (k0 : Nat) (c1 : List D) (k2 : Nat) (c3 : List D) (r4 r5 r6 r0 : Int) : ∀ m i, i + m = src.length → ∀ N G u v : List Int, N.length = y.length + 1 → G.length = y.length → stE y u v = 0 →
    ∃ r, runR (peaksOf_L8_S y.length (y.map iD) er src.length (src.map iD) k0 c1 k2 c3 r4 r5 r6) (.next 0 (iD (i : Int) :: pkS y N G u v)) = some r ∧ runR (peaksR_L10_S y.length (y.map iD) er src.length (src.map iD) r0 k0 c1 k2 c3) (.next 0 (iD (i : Int) :: pkS y N G u v)) = some r ∧
      ((∃ N' G' u' v' : List Int, N'.length = y.length + 1 ∧ G'.length = y.length ∧ r = .out 0 (pkS y N' G' u' v')) ∨ (∃ (e : Int) (N' G' u' v' : List Int), r = .out 1 (iD e :: pkS y N' G' u' v'))) := by
  intro m
  induction m with
  | zero =>
    intro i hi N G u v hN hG h0
    have h := ok_of h0
    have hle := h.le
    have ep : IntKind.i64.wrap ((y.length : Int) + 1) = ((y.length + 1 : Nat) : Int) := natI (by omega)
    refine ⟨.out 0 (pkS y N G u v), runR_exit ?_, runR_exit ?_, .inl ⟨N, G, u, v, hN, hG, rfl⟩⟩
    · show peaksOf_L8_S0 y.length (y.map iD) er src.length (src.map iD) k0 c1 k2 c3 r4 r5 r6 _ = _
      unfold peaksOf_L8_S0
      rw [pullD_some ((i : Int), y.length + 1, N.map iD, y.length, G.map iD, u.length, u.map iD, v.length, v.map iD) (by rfl) (by rfl)]
      dsimp only
      rw [if_neg (by omega), ep, Int.toNat_natCast, Int.toNat_natCast]
    · show peaksR_L10_S0 y.length (y.map iD) er src.length (src.map iD) r0 k0 c1 k2 c3 _ = _
      unfold peaksR_L10_S0
      rw [pullD_some ((i : Int), y.length + 1, N.map iD, y.length, G.map iD, u.length, u.map iD, v.length, v.map iD) (by rfl) (by rfl)]
      dsimp only
      rw [if_neg (by omega), ep, Int.toNat_natCast, Int.toNat_natCast]
  | succ m ih =>
    intro i hi N G u v hN hG h0
    have h := ok_of h0
    have hle := h.le
    have lu := h.la
    have lv := h.lb
    have ep : IntKind.i64.wrap ((y.length : Int) + 1) = ((y.length + 1 : Nat) : Int) := natI (by omega)
    have e2 : IntKind.i64.wrap ((i : Int) + 1) = ((i + 1 : Nat) : Int) := natI (by omega)
    have hc := step_eq y u v er (at' src i) (by omega) (by omega) (by omega)
    rw [if_neg (by omega)] at hc
    have hr := stepR_eq h er (at' src i)
    rcases stepV_cases h0 er (at' src i) with ⟨u', v', w', e, he, _, hq⟩ | ⟨u', v', w', h0', hw', hq⟩
    · rw [hq] at hc hr
      refine ⟨.out 1 (iD e :: pkS y N G u v), runR_exit ?_, runR_exit ?_, .inr ⟨e, N, G, u, v, rfl⟩⟩
      · show peaksOf_L8_S0 y.length (y.map iD) er src.length (src.map iD) k0 c1 k2 c3 r4 r5 r6 _ = _
        unfold peaksOf_L8_S0
        rw [pullD_some ((i : Int), y.length + 1, N.map iD, y.length, G.map iD, u.length, u.map iD, v.length, v.map iD) (by rfl) (by rfl)]
        dsimp only
        simp only [ep, Int.toNat_natCast]
        rw [if_pos (by omega), guardP_pos (by omega), readN (by omega), pullD_some (at' src i) (by rfl) (by rfl), show [D.agg [D.list y.length (y.map iD), D.one (.bool er)], D.agg [D.list u.length (u.map iD), D.list v.length (v.map iD)], iD (at' src i)] = [lnD y er, stD u v, iD (at' src i)] from rfl, hc, pullT]
        dsimp only
        rw [if_pos he]
      · show peaksR_L10_S0 y.length (y.map iD) er src.length (src.map iD) r0 k0 c1 k2 c3 _ = _
        unfold peaksR_L10_S0
        rw [pullD_some ((i : Int), y.length + 1, N.map iD, y.length, G.map iD, u.length, u.map iD, v.length, v.map iD) (by rfl) (by rfl)]
        dsimp only
        simp only [ep, Int.toNat_natCast]
        rw [if_pos (by omega), guardP_pos (by omega), readN (by omega), pullD_some (at' src i) (by rfl) (by rfl), show [D.agg [D.list y.length (y.map iD), D.one (.bool er)], D.agg [D.list u.length (u.map iD), D.list v.length (v.map iD)], iD (at' src i)] = [lnD y er, stD u v, iD (at' src i)] from rfl, hr, pullT]
        dsimp only
        rw [if_pos he]
    · rw [hq] at hc hr
      obtain ⟨r, i1, i2, i3⟩ := ih (i + 1) (by omega) (rN w' N y.length (y.length + 1)) (rG w' G y.length y.length) u' v' (rN_len _ _ _ _) (rG_len _ _ _ _) h0'
      refine ⟨r, (runR_next ?_).trans i1, (runR_next ?_).trans i2, i3⟩
      · show peaksOf_L8_S0 y.length (y.map iD) er src.length (src.map iD) k0 c1 k2 c3 r4 r5 r6 _ = _
        unfold peaksOf_L8_S0
        rw [pullD_some ((i : Int), y.length + 1, N.map iD, y.length, G.map iD, u.length, u.map iD, v.length, v.map iD) (by rfl) (by rfl)]
        dsimp only
        simp only [ep, e2, Int.toNat_natCast]
        rw [if_pos (by omega), guardP_pos (by omega), readN (by omega), pullD_some (at' src i) (by rfl) (by rfl), show [D.agg [D.list y.length (y.map iD), D.one (.bool er)], D.agg [D.list u.length (u.map iD), D.list v.length (v.map iD)], iD (at' src i)] = [lnD y er, stD u v, iD (at' src i)] from rfl, hc, pullT]
        dsimp only
        rw [if_neg (by simp), bindL_some (nodes_go hle hw' hN _ _ _ _ _ _ _ _ _ _ _ _ _ _ _ _), if_pos rfl, pullD_some (y.length + 1, (rN w' N y.length (y.length + 1)).map iD) (by rfl) (by rfl)]
        dsimp only
        rw [bindL_some (gaps_go hle hw' hG _ _ _ _ _ _ _ _ _ _ _ _ _ _ _ _), if_pos rfl, pullD_some (y.length, (rG w' G y.length y.length).map iD) (by rfl) (by rfl)]
      · show peaksR_L10_S0 y.length (y.map iD) er src.length (src.map iD) r0 k0 c1 k2 c3 _ = _
        unfold peaksR_L10_S0
        rw [pullD_some ((i : Int), y.length + 1, N.map iD, y.length, G.map iD, u.length, u.map iD, v.length, v.map iD) (by rfl) (by rfl)]
        dsimp only
        simp only [ep, e2, Int.toNat_natCast]
        rw [if_pos (by omega), guardP_pos (by omega), readN (by omega), pullD_some (at' src i) (by rfl) (by rfl), show [D.agg [D.list y.length (y.map iD), D.one (.bool er)], D.agg [D.list u.length (u.map iD), D.list v.length (v.map iD)], iD (at' src i)] = [lnD y er, stD u v, iD (at' src i)] from rfl, hr, pullT]
        dsimp only
        rw [if_neg (by simp), bindL_some (both_go hle hw' hN hG _ _ _ _ _ _ _ _ _ _ _ _ _ _ _ _ _ _), if_pos rfl, pullD_some (y.length + 1, (rN w' N y.length (y.length + 1)).map iD, y.length, (rG w' G y.length y.length).map iD) (by rfl) (by rfl)]
theorem peaks_eq (y : List Int) (er : Bool) (src : List Int) (hl : y.length ≤ 1000) (hsl : src.length ≤ 1000) : ∃ (N G : List Int) (e : Int), m_21 [lnD y er, lD src] = some (.tup [.agg [lD N, lD G], iD e]) ∧ m_23 [lnD y er, lD src] = some (.tup [.agg [lD N, lD G], iD e]) ∧ N.length ≤ 1000 ∧ G.length ≤ 1000 := by
  rw [m_21_eq, m_23_eq]
  unfold peaksOf_M peaksR_M
  rw [show [D.agg [D.list y.length (y.map iD), D.one (.bool er)]] = [lnD y er] from rfl, beginC_eq y er hl, lineErr_eq, pullI, beginR_eq y er hl, chkCount0]
  by_cases q : lineE y ≠ 0
  · refine ⟨[], [], lineE y, ?_, ?_, by decide, by decide⟩
    · rw [if_pos q, pullD_some (0, [], 0, [], lineE y) (by rfl) (by rfl)]
      dsimp only
      rw [pullI, first2, pullI, if_pos q, if_pos q]
      rfl
    · rw [if_pos q]; rfl
  · have h0 : lineE y = 0 := by omega
    have h00 := stE_zs h0
    have h := ok_of h00
    have hle := h.le
    have ep : IntKind.i64.wrap ((y.length : Int) + 1) = ((y.length + 1 : Nat) : Int) := natI (by omega)
    rw [if_neg q, if_neg q, pullD_some ((zs y.length).length, (zs y.length).map iD, (zs y.length).length, (zs y.length).map iD, 0) (by rfl) (by rfl)]
    dsimp only
    rw [pullI, first2, pullI, if_neg (show ¬ ((0 : Int) ≠ 0) by decide)]
    by_cases c : (src.length : Int) > 200
    · refine ⟨[], [], 8, ?_, ?_, by decide, by decide⟩
      · simp only [if_pos c]
        rw [if_pos (show (8 : Int) ≠ 0 by decide)]
        rfl
      · rw [if_pos c]; rfl
    · simp only [if_neg c, ep, Int.toNat_natCast]
      rw [if_neg (show ¬ ((0 : Int) ≠ 0) by decide), guardP_pos ⟨by omega, by omega, by omega, by omega⟩, guardP_pos ⟨by omega, by omega, by omega, by omega⟩, guardP_pos ⟨by omega, by omega, by omega, by omega⟩, guardP_pos ⟨by omega, by omega, by omega, by omega⟩, pullD_some ((zs y.length).length, (zs y.length).map iD, (zs y.length).length, (zs y.length).map iD) (by rfl) (by rfl), zeros_list, zeros_list, tab_zeros, tab_zeros]
      dsimp only
      obtain ⟨r, i1, i2, i3⟩ := peaks_go (y := y) er src hsl (zs y.length).length ((zs y.length).map iD) (zs y.length).length ((zs y.length).map iD) 0 0 0 (lineE y) src.length 0 (by omega) (zs (y.length + 1)) (zs y.length) (zs y.length) (zs y.length) (tab_len _ _) (tab_len _ _) h00
      rcases i3 with ⟨N', G', u', v', hN, hG, rfl⟩ | ⟨e, N', G', u', v', rfl⟩
      · refine ⟨N', G', 0, ?_, ?_, by omega, by omega⟩
        · refine (bindL_some i1).trans ?_
          rw [if_pos rfl, pullD_some (y.length + 1, N'.map iD, y.length, G'.map iD, u'.length, u'.map iD, v'.length, v'.map iD) (by rfl) (by rfl)]
          dsimp only
          rw [guardP_pos (Nat.le_refl _), guardP_pos (Nat.le_refl _)]
          simp only [lD, hN, hG]
        · refine (bindL_some i2).trans ?_
          rw [if_pos rfl, pullD_some (y.length + 1, N'.map iD, y.length, G'.map iD, u'.length, u'.map iD, v'.length, v'.map iD) (by rfl) (by rfl)]
          dsimp only
          rw [guardP_pos (Nat.le_refl _), guardP_pos (Nat.le_refl _)]
          simp only [lD, hN, hG]
      · refine ⟨[], [], e, ?_, ?_, by decide, by decide⟩
        · refine (bindL_some i1).trans ?_
          rw [if_neg (by decide), if_pos rfl, pullD_some (e, y.length + 1, N'.map iD, y.length, G'.map iD, u'.length, u'.map iD, v'.length, v'.map iD) (by rfl) (by rfl)]
          rfl
        · refine (bindL_some i2).trans ?_
          rw [if_neg (by decide), if_pos rfl, pullD_some (e, y.length + 1, N'.map iD, y.length, G'.map iD, u'.length, u'.map iD, v'.length, v'.map iD) (by rfl) (by rfl)]
          rfl
theorem law4_eq (y src : List Int) (er : Bool) : m_4 [lnD y er, lD src] = some (.one (.bool true)) := by
  rw [m_4_eq]
  unfold law4_M
  rw [m_6_eq, pullB, if_neg (by decide), show [D.agg [D.list y.length (y.map iD), D.one (.bool er)]] = [lnD y er] from rfl, few_eq, pullB]
  by_cases f1 : (y.length : Int) ≤ 12
  rotate_left
  · rw [if_pos (by simpa using f1)]
  rw [if_neg (by simpa using f1)]
  have hl : y.length ≤ 1000 := by omega
  have cL := copyLine_eq y er hl
  have pL : ∀ {β : Type} (kk : Nat × List D × Bool → Option β), pullD (some (lnD y er)) (fun d => (D.ln (D.at d 0), D.lc (D.at d 0), D.vb (D.at d 1))) (fun (z : Nat × List D × Bool) => match z with | (k2, c3, r4) => D.agg [.list k2 c3, .one (.bool r4)]) kk = kk (y.length, y.map iD, er) := fun kk => pullD_some (y.length, y.map iD, er) rfl rfl
  by_cases f2 : (src.length : Int) > 202
  · by_cases f3 : (src.length : Int) > 60
    · rw [if_pos f3, if_neg (by omega), if_pos f2]
    · omega
  have hs : src.length ≤ 1000 := by omega
  obtain ⟨N, G, e, p1, p2, l1, l2⟩ := peaks_eq y er src hl hs
  have s1 := ints_same N l1
  have s2 := ints_same G l2
  by_cases f3 : (src.length : Int) > 60
  · rw [if_pos f3]
    by_cases f4 : (src.length : Int) ≤ 200
    · rw [if_pos f4]
    rw [if_neg f4, if_neg f2, cL, pL]
    dsimp only
    rw [show [D.list src.length (src.map iD)] = [lD src] from rfl, copyInts_eq src hs, pullD_some (src.length, src.map iD) (by rfl) (by rfl)]
    dsimp only
    rw [show [D.agg [D.list y.length (y.map iD), D.one (.bool er)], D.list src.length (src.map iD)] = [lnD y er, lD src] from rfl, p1, pullD_some (N.length, N.map iD, G.length, G.map iD, e) (by rfl) (by rfl)]
    dsimp only
    rw [p2, pullD_some (N.length, N.map iD, G.length, G.map iD, e) (by rfl) (by rfl)]
    dsimp only
    rw [if_pos rfl, show [D.list N.length (N.map iD), D.list N.length (N.map iD)] = [lD N, lD N] from rfl, s1, pullB, if_pos rfl, show [D.list G.length (G.map iD), D.list G.length (G.map iD)] = [lD G, lD G] from rfl, s2, pullB]
  · rw [if_neg f3, if_neg f2, cL, pL]
    dsimp only
    rw [show [D.list src.length (src.map iD)] = [lD src] from rfl, copyInts_eq src hs, pullD_some (src.length, src.map iD) (by rfl) (by rfl)]
    dsimp only
    rw [show [D.agg [D.list y.length (y.map iD), D.one (.bool er)], D.list src.length (src.map iD)] = [lnD y er, lD src] from rfl, p1, pullD_some (N.length, N.map iD, G.length, G.map iD, e) (by rfl) (by rfl)]
    dsimp only
    rw [p2, pullD_some (N.length, N.map iD, G.length, G.map iD, e) (by rfl) (by rfl)]
    dsimp only
    rw [if_pos rfl, show [D.list N.length (N.map iD), D.list N.length (N.map iD)] = [lD N, lD N] from rfl, s1, pullB, if_pos rfl, show [D.list G.length (G.map iD), D.list G.length (G.map iD)] = [lD G, lD G] from rfl, s2, pullB]
theorem law4_con (y src : List Int) (er : Bool) : Con 4 [.agg [lD y, .one (.bool er)], lD src] (.one (.bool true)) := m_4_ok (law4_eq y src er)
end
end Go.Proofs.Ytfdehaafbkhclaa
/- SurgePeaks: what the runs give, for every argument. -/
namespace Go.Proofs.Ytfdehaafbkhclaa.surgePeaks
open Go.ChangeShapes Go.WideShapes Go.ChangeAt Go.RowKit Go.Joins Go.Ev
set_option maxRecDepth 100000 in
/-- WHAT THE RUNS GIVE, FOR EVERY ARGUMENT AND EVERY WORLD THAT HOLDS THE TABLES. -/
theorem contract (H : Type) (enc : TypeId × Value → H) (W : World) (base : Nat) (args : Array Value) (ds gs : List (DataW H)) (before : List MemPlace)
    (hval : ∀ (j : Nat) t v, Try.f4.params[j]? = some t → args[j]? = some v → Value.okWide Try.prog W .any base t v)
    (hW : DataW.Whole enc Try.prog Try.f4.params.toList Rows.surgePeaksSpec.vars false W args.toList ds gs before) (hL : laidMetH Try.prog Rows.surgePeaksRow.laid W) :
    Calls Try.prog 4 args W fun e W' => ∃ v, e = .returned v ∧ Rows.surgePeaksSpec.post enc Try.prog Try.f4 false true false false W args v W' := by
  have hW' := hW
  have hlt := hW.lt
  obtain ⟨p, q, hA0, hV, rfl, hfz, hnd⟩ := hW
  have hA : DataW.TrodAll enc Try.prog W 0 (fun _ => true) true Try.f4.params.toList args.toList ds p := hA0
  rw [Try.params4] at hA hval
  obtain ⟨v0, vs0, d0, ds0, p0, q0, hargs, rfl, rfl, h0, r0⟩ := trodAll_cons hA
  obtain ⟨v1, vs1, d1, ds1, p1, q1, rfl, rfl, rfl, h1, r1⟩ := trodAll_cons r0
  obtain ⟨rfl, rfl, rfl⟩ := trodAll_nil r1
  obtain rfl : args = #[v0, v1] := by cases args; simp_all
  obtain ⟨rfl, rfl⟩ := trodVars_none hV
  obtain ⟨e0, o0, k0⟩ := open_agg (ls := [.sl [.int .i64], .bool]) 8 (by kernel_rfl) (by kernel_rfl) (by kernel_rfl) (hval 0 24 v0 rfl rfl) h0
  obtain ⟨y, er, rfl⟩ := line_of o0
  obtain ⟨e1, o1, k1⟩ := open_cell (c := .sl [.int .i64]) 8 (by kernel_rfl) (by kernel_rfl) (by kernel_rfl) (hval 1 22 v1 rfl rfl) h1
  obtain ⟨src, rfl⟩ := ints_of o1
  have hr : RpL (fun _ => True) W [.agg [lD y, .one (.bool er)], lD src] [v0, v1] := by
    simp only [RpL]
    exact ⟨v0, _, rfl, k0, ⟨v1, _, rfl, k1, rfl⟩⟩
  refine (law4_con y src er W (fun _ => True) _ tabs0 hr).mono fun e W' ⟨v, he, hv, hg⟩ => ?_
  simp only [Rp] at hv
  subst he
  subst hv
  have hlaid : laidOutB Try.prog = true := by kernel_rfl
  exact ⟨_, rfl, post_below (pa := (p0 ++ (p1 ++ []))) (pv := []) hW' (fun _ _ _ => trodAll_cons_mk (shut_bool Try.underlying4 _) trodAll_mk0) (fun sp hsp => by
    rw [Try.params4]
    exact trodAll_cons_mk (stays hlaid (by kernel_rfl) (of_decide_eq_true (by kernel_rfl)) h0 hg (fun x hx => hlt x (by simp only [List.mem_append]; left; left; exact hx)) (fun x hx => hsp x (by simp only [List.mem_append]; left; left; exact hx))) (trodAll_cons_mk (stays hlaid (by kernel_rfl) (of_decide_eq_true (by kernel_rfl)) h1 hg (fun x hx => hlt x (by simp only [List.mem_append]; left; right; left; exact hx)) (fun x hx => hsp x (by simp only [List.mem_append]; left; right; left; exact hx))) (trodAll_mk0))) (fun _ _ => rfl) rfl
    hg (ok_one (by kernel_rfl) rfl (okWide_bool_mk Try.underlying4 _))⟩
end Go.Proofs.Ytfdehaafbkhclaa.surgePeaks
/- SurgePeaks: closed facts of the witness. -/
namespace Go.Proofs.Ytfdehaafbkhclaa.surgePeaks
open Go.ChangeShapes Go.WideShapes Go.ChangeAt Go.RowKit Go.Joins
/-- THE WITNESS's ARGUMENTS. -/
noncomputable def args0 : Array Value := #[.agg #[.slice none 0 0, .bool false], .slice none 0 0]
/-- A WORLD FOR THE WITNESS: the heap that the program's own initialisers leave. -/
noncomputable def start (os : Os) : World := World.doorLaid Try.prog 400 os
theorem laid_met (os : Os) : laidMet Try.prog Rows.surgePeaksRow.laid ((start os).forCall (fun _ _ => 0) ⟨#[], args0, []⟩).memory := ⟨[], rfl, List.nodup_nil, fun _ _ h => by cases h⟩
theorem reads (os : Os) {H : Type} (enc : TypeId × Value → H) : ∃ places, DataW.whole enc Try.prog ((start os).forCall (fun _ _ => 0) ⟨#[], args0, []⟩).memory Try.f4.params.toList Rows.surgePeaksSpec.vars false args0.toList 8 = some ([.agg [.nil, .lit (.bool false)], .nil], [], places) :=
  ⟨[], by kernel_rfl⟩
theorem vB (os : Os) : ((start os).forCall (fun _ _ => 0) ⟨#[], args0, []⟩).variablesB Try.prog = true := by kernel_rfl
theorem rB (os : Os) : (((start os).forCall (fun _ _ => 0) ⟨#[], args0, []⟩).heap.toList.drop Try.prog.globals.size).take ((begin Try.prog (fun _ _ => 0) default).world.heap.size - Try.prog.globals.size) = (begin Try.prog (fun _ _ => 0) default).world.heap.toList.drop Try.prog.globals.size := by kernel_rfl
theorem oB (os : Os) : Input.okWideB Try.prog ((start os).forCall (fun _ _ => 0) ⟨#[], args0, []⟩) 4 ⟨#[], args0, []⟩ = true := by kernel_rfl
theorem hB (os : Os) : (start os).os = os := by kernel_rfl
end Go.Proofs.Ytfdehaafbkhclaa.surgePeaks
/- For any line and sources, valid or not, the law SurgePeaks of the program answers true, and its arguments read as they did. CONDITIONS: none. -/
namespace Go.Proofs.Ytfdehaafbkhclaa.surgePeaks
open Go.ChangeShapes Go.WideShapes Go.ChangeAt Go.RowKit Go.Joins
set_option maxRecDepth 100000 in
theorem lifted (os : Os) (started : os.Started) (H : Type) (enc : TypeId × Value → H) (F : Stop.Interp) :
    ReturnsInHanded {} Try.checked os 4 .any ((OpenSpec.ofChange Rows.surgePeaksSpec).preRow enc Try.prog Try.f4 Rows.surgePeaksRow.domain false Rows.surgePeaksRow.laid) (((OpenSpec.ofChange Rows.surgePeaksSpec).at F).post enc Try.prog Try.f4 false true false false) := by
  obtain ⟨places, hx⟩ := reads os enc
  refine returnsInHanded_of_row (C := Try.checked) (s := OpenSpec.ofChange Rows.surgePeaksSpec) own started (by kernel_rfl) Try.func4
    (witness_row_at (enc := enc) (C := Try.checked) false (start os) args0 (hB os) (vB os) (rB os) (oB os)
      (OpenSpec.preRow_of_cond 8 hx (by kernel_rfl) (fun k hk => by cases hk) (by kernel_rfl) (laid_met os))) ?_
  intro W base args ds gs before hval hW _ _ _ hL _ _
  exact contract H enc W base args ds gs before hval hW hL
theorem said : Rows.SurgePeaksSaid :=
  OpenClaim.holds_of_cond 4 Try.f4 rfl rfl rfl rfl rfl rfl rfl ⟨rfl, rfl, rfl, rfl, rfl⟩ rfl rfl rfl rfl rfl (by kernel_rfl) Try.func4 (by kernel_rfl)
    (of_decide_eq_true (by kernel_rfl)) (by unfold Func.isWrapper; first | (rw [if_pos (by decide +kernel)]; kernel_rfl) | (rw [if_neg (by decide +kernel)]; exact ⟨rfl, rfl⟩))
    (fun os started H enc _ F => by rw [OpenClaim.pre_eq_preRow]; exact lifted os started H enc F)
end Go.Proofs.Ytfdehaafbkhclaa.surgePeaks
