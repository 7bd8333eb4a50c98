import Derived.Test.YtbfefnfmdkgfjaaTD
set_option linter.unusedVariables false
set_option linter.unusedSimpArgs false
set_option linter.unusedSectionVars false
set_option linter.unnecessarySimpa false
namespace Go.Proofs.Ytbfefnfmdkgfjaa
open Go.Ev Go.RowKit
set_option maxRecDepth 100000
set_option maxHeartbeats 8000000
set_option linter.all false
noncomputable section
def firstOf_x2_0 : LExit := ⟨some 0, [], (2 :: (4 :: (List.range' 7 8)))⟩
def firstOf_x2_1 : LExit := ⟨none, [.val 2], (4 :: (List.range' 7 8))⟩
def firstOf_sp : List LSpec := [⟨47, 2, [firstOf_x2_0, firstOf_x2_1]⟩]
def firstOf_L2_E (k : Nat) (c : List D)  : List AV × AHeap := ([.dsl 0, .pure (.tuple #[]), .pure (.int .i64 (0 : Int)), .pure (.tuple #[]), .pure (.tuple #[]), .dsl 0, .pure (.int .i64 (k : Int)), .pure (.int .i64 (0 : Int)), .pure (.tuple #[]), .pure (.tuple #[]), .pure (.tuple #[]), .pure (.tuple #[]), .pure (.tuple #[]), .pure (.tuple #[]), .pure (.tuple #[])], [(0, { cells := [], opn := none, kind := .deep k c })])
def firstOf_L2_A : LoopAt := ⟨47, loopAt Try.prog 47 0, 1, 11, 1, noFrame⟩
theorem firstOf_L2_ok : (firstOf_L2_A).OK := ⟨by show 1 ≤ 11; decide, by show 1 ≤ 1; decide, by kernel_rfl, rfl⟩
def firstOf_L2_gs (k : Nat) (c : List D)  : Go.Ev.Rd → Option GS
  | .next 0 ds => ghost [.val 7] (2 :: (4 :: (List.range' 8 7))) (firstOf_L2_E k c).1 (firstOf_L2_E k c).2 1 ds
  | .out 0 ds => ghost firstOf_x2_0.live firstOf_x2_0.junk (firstOf_L2_E k c).1 (firstOf_L2_E k c).2 1 ds
  | .out 1 ds => ghost firstOf_x2_1.live firstOf_x2_1.junk (firstOf_L2_E k c).1 (firstOf_L2_E k c).2 1 ds
  | _ => none
def firstOf_L2_ex : Nat → Option Nat
  | 0 => firstOf_x2_0.ex
  | 1 => firstOf_x2_1.ex
  | _ => none
def firstOf_L2_ax : Go.Ev.Rd → AX
  | .next _ _ => .normal
  | .out j _ => axOf (firstOf_L2_ex j)
def firstOf_L2_S0 (k : Nat) (c : List D)  (ds : List D) : Option Go.Ev.Rd := pullD (α := Int) (some (.tup ds)) (fun d => ((D.vi (D.at d 0)))) (fun s7 => .tup [iD s7]) fun s7 => ((if s7 < (k : Int) then guardP ((0 : Int) ≤ s7 ∧ s7.toNat < k) (pullD (α := Int) (readD c (s7.toNat * 1) 1 false) (fun d => ((D.vi d))) (fun v0 => iD v0) fun v0 => ((if v0 ≠ (0 : Int) then some (.out 1 [iD v0]) else some (.next 0 [iD (IntKind.i64.wrap (s7 + (1 : Int)))])))) else some (.out 0 [])))
def firstOf_L2_S (k : Nat) (c : List D)  : Go.Ev.Rd → Option Go.Ev.Rd
  | .next 0 ds => firstOf_L2_S0 k c ds
  | _ => none
theorem firstOf_L2_S_ok (k : Nat) (c : List D)  : ∀ s_ t_, firstOf_L2_S k c s_ = some t_ → Step (ctx [47] firstOf_sp) Tabs firstOf_L2_A (stateOf (firstOf_L2_gs k c s_)) (stateOf (firstOf_L2_gs k c t_)) (firstOf_L2_ax t_) ∧ EndOK firstOf_L2_A.nx firstOf_L2_A.low (firstOf_L2_gs k c) t_
  | .next 0 ds, t_, h => by
    have h_ : firstOf_L2_S0 k c ds = some t_ := h
    clear h
    unfold firstOf_L2_S0 at h_
    obtain ⟨s7, e0, h0⟩ := pullD_elim h_
    clear h_
    obtain rfl := tup_inj e0
    by_cases b1_ : s7 < (k : Int)
    · have h2_ := (if_pos b1_).symm.trans h0
      obtain ⟨f3_, h4_⟩ := guardP_elim h2_
      obtain ⟨v0, f5_, h6_⟩ := pullD_elim h4_
      replace f5_ := readD_elim f5_
      by_cases b7_ : v0 ≠ (0 : Int)
      · have h8_ := (if_pos b7_).symm.trans h6_
        obtain rfl := Option.some.inj h8_
        exact ⟨step_pc 3000 (bT 2 []) [iD v0] [c_d b1_, c_f f3_, c_f f5_, c_b b7_] [] _ rfl (by kernel_rfl) (by kernel_rfl) (by kernel_rfl) (by kernel_rfl) (by kernel_rfl) (by kernel_rfl), by kernel_rfl, by kernel_rfl⟩
      have h8_ := (if_neg b7_).symm.trans h6_
      have b9_ : v0 = (0 : Int) := by first | exact b7_ | simpa using b7_
      obtain rfl := Option.some.inj h8_
      exact ⟨step_pc 3000 (bT 1 (bF 1 [])) [iD v0] [c_d b1_, c_f f3_, c_f f5_, c_bn b9_] [] _ rfl (by kernel_rfl) (by kernel_rfl) (by kernel_rfl) (by kernel_rfl) (by kernel_rfl) (by kernel_rfl), trivial⟩
    have h2_ := (if_neg b1_).symm.trans h0
    obtain rfl := Option.some.inj h2_
    exact ⟨step_pc 3000 (bF 1 []) [] [c_n b1_] [] _ rfl (by kernel_rfl) (by kernel_rfl) (by kernel_rfl) (by kernel_rfl) (by kernel_rfl) (by kernel_rfl), by kernel_rfl, by kernel_rfl⟩
  | .next (_ + 1) _, _, h => by cases h
  | .out _ _, _, h => by cases h
theorem firstOf_L2_go (k : Nat) (c : List D)  {q : Nat} {ds : List D} {j : Nat} {es : List D} (h : runR (firstOf_L2_S k c) (.next q ds) = some (.out j es)) : Runs (ctx [47] firstOf_sp) Tabs firstOf_L2_A (stateOf (firstOf_L2_gs k c (.next q ds))) (stateOf (firstOf_L2_gs k c (.out j es))) (firstOf_L2_ax (.out j es)) ∧ (nxtOf (firstOf_L2_gs k c (.out j es)), lowGS (firstOf_L2_gs k c (.out j es))) = (firstOf_L2_A.nx, firstOf_L2_A.low) :=
  runs_of' (good true _ _) firstOf_L2_ok (ax := firstOf_L2_ax) (fun _ _ => rfl) (fun _ _ => axOf_end _) (firstOf_L2_S_ok k c) h
theorem firstOf_L2_in0 (k : Nat) (c : List D)  {es : List D} (h : runR (firstOf_L2_S k c) (.next 0 [iD ((0 : Int))]) = some (.out 0 es)) : LoopC (loopAt Try.prog 47 0) (firstOf_L2_E k c) 1 noFrame firstOf_x2_0 es :=
  have r := firstOf_L2_go k c h
  loopin_as rfl (loop_in (l := firstOf_L2_A) (E := (firstOf_L2_E k c)) (S := stateOf (firstOf_L2_gs k c (.next 0 [iD ((0 : Int))]))) (ns := nsOf (firstOf_L2_gs k c (.next 0 [iD ((0 : Int))]))) firstOf_L2_ok r.1 r.2 (by kernel_rfl) (by kernel_rfl) (by kernel_rfl) (by kernel_rfl))
theorem firstOf_L2_in1 (k : Nat) (c : List D)  {es : List D} (h : runR (firstOf_L2_S k c) (.next 0 [iD ((0 : Int))]) = some (.out 1 es)) : LoopC (loopAt Try.prog 47 0) (firstOf_L2_E k c) 1 noFrame firstOf_x2_1 es :=
  have r := firstOf_L2_go k c h
  loopin_as rfl (loop_in (l := firstOf_L2_A) (E := (firstOf_L2_E k c)) (S := stateOf (firstOf_L2_gs k c (.next 0 [iD ((0 : Int))]))) (ns := nsOf (firstOf_L2_gs k c (.next 0 [iD ((0 : Int))]))) firstOf_L2_ok r.1 r.2 (by kernel_rfl) (by kernel_rfl) (by kernel_rfl) (by kernel_rfl))
def firstOf_M (k : Nat) (c : List D) : Option D := bindL (runR (firstOf_L2_S k c) (.next 0 [iD ((0 : Int))])) fun j ds => (if j = 0 then pullD (some (.tup ds)) (fun _ => ()) (fun _ => .tup []) fun _ => (some (iD (0 : Int))) else if j = 1 then pullD (α := Int) (some (.tup ds)) (fun d => ((D.vi (D.at d 0)))) (fun l0 => .tup [iD l0]) fun l0 => (some (iD l0)) else none)
theorem firstOf_M_ok (k : Nat) (c : List D) {r : D} (h : firstOf_M k c = some r) : Con 47 [.list k c] r := by
  unfold firstOf_M at h
  obtain ⟨j, ds, e1_, h2_⟩ := bindL_elim h
  by_cases j3_ : j = 0
  · have h6_ := (if_pos j3_).symm.trans h2_
    clear h2_
    subst j3_
    obtain ⟨⟨⟩, e4_, h7_⟩ := pullD_elim h6_
    clear h6_
    obtain rfl := tup_inj e4_
    have k5_ := firstOf_L2_in0 k c e1_
    obtain rfl := Option.some.inj h7_
    exact con_pc (op := true) (I := [47]) (sp := firstOf_sp) 3000 [] [.tup [iD (Int.ofNat 0)]] [] [k_l k5_ [] [.tup [iD (Int.ofNat 0)]] []] (by kernel_rfl)
  have h8_ := (if_neg j3_).symm.trans h2_
  clear h2_
  by_cases j9_ : j = 1
  · have h12_ := (if_pos j9_).symm.trans h8_
    clear h8_
    subst j9_
    obtain ⟨l0, e10_, h13_⟩ := pullD_elim h12_
    clear h12_
    obtain rfl := tup_inj e10_
    have k11_ := firstOf_L2_in1 k c e1_
    obtain rfl := Option.some.inj h13_
    exact con_pc (op := true) (I := [47]) (sp := firstOf_sp) 3000 [] [.tup [iD (Int.ofNat 1), iD l0]] [] [k_l k11_ [] [.tup [iD (Int.ofNat 1), iD l0]] []] (by kernel_rfl)
  have h14_ := (if_neg j9_).symm.trans h8_
  clear h8_
  cases h14_
def m_47 (ds : List D) : Option D := pullD (α := Nat × (List D)) (some (.tup ds)) (fun d => ((D.ln (D.at d 0)), (D.lc (D.at d 0)))) (fun (k, c) => .tup [.list k c]) fun (k, c) => firstOf_M k c
theorem m_47_ok {ds : List D} {r : D} (h : m_47 ds = some r) : Con 47 ds r := by
  unfold m_47 at h
  obtain ⟨⟨k, c⟩, e0, h0⟩ := pullD_elim h
  obtain rfl := tup_inj e0
  exact firstOf_M_ok k c h0
theorem m_47_eq (k : Nat) (c : List D) : m_47 [.list k c] = firstOf_M k c := pullD_some (k, c) rfl rfl
def chkCount_sp : List LSpec := []
def chkCount_M (n m : Int) : Option D := (if n < (1 : Int) then some (iD (10 : Int)) else (if n > m then some (iD (8 : Int)) else some (iD (0 : Int))))
theorem chkCount_M_ok (n m : Int) {r : D} (h : chkCount_M n m = some r) : Con 51 [iD n, iD m] r := by
  unfold chkCount_M at h
  by_cases b1_ : n < (1 : Int)
  · have h2_ := (if_pos b1_).symm.trans h
    obtain rfl := Option.some.inj h2_
    exact con_pc (op := true) (I := [51]) (sp := chkCount_sp) 3000 (bT 1 []) [] [c_d b1_] [] (by kernel_rfl)
  have h2_ := (if_neg b1_).symm.trans h
  by_cases b3_ : n > m
  · have h4_ := (if_pos b3_).symm.trans h2_
    obtain rfl := Option.some.inj h4_
    exact con_pc (op := true) (I := [51]) (sp := chkCount_sp) 3000 (bF 1 (bT 1 [])) [] [c_n b1_, c_d b3_] [] (by kernel_rfl)
  have h4_ := (if_neg b3_).symm.trans h2_
  obtain rfl := Option.some.inj h4_
  exact con_pc (op := true) (I := [51]) (sp := chkCount_sp) 3000 (bF 2 []) [] [c_n b1_, c_n b3_] [] (by kernel_rfl)
def m_51 (ds : List D) : Option D := pullD (α := Int × Int) (some (.tup ds)) (fun d => ((D.vi (D.at d 0)), (D.vi (D.at d 1)))) (fun (n, m) => .tup [iD n, iD m]) fun (n, m) => chkCount_M n m
theorem m_51_ok {ds : List D} {r : D} (h : m_51 ds = some r) : Con 51 ds r := by
  unfold m_51 at h
  obtain ⟨⟨n, m⟩, e0, h0⟩ := pullD_elim h
  obtain rfl := tup_inj e0
  exact chkCount_M_ok n m h0
theorem m_51_eq (n m : Int) : m_51 [iD n, iD m] = chkCount_M n m := pullD_some (n, m) rfl rfl
def sumsOf_x3_0 : LExit := ⟨some 0, [.made 3], (4 :: (5 :: (List.range' 12 16)))⟩
def sumsOf_sp : List LSpec := [⟨66, 3, [sumsOf_x3_0]⟩]
def sumsOf_L3_E (k : Nat) (c : List D)  : List AV × AHeap := ([.dsl 0, .pure (.tuple #[]), .pure (.slice none 0 0), .bsl 1 0 (IntKind.i64.wrap ((k : Int) + (1 : Int))).toNat (IntKind.i64.wrap ((k : Int) + (1 : Int))).toNat, .pure (.tuple #[]), .pure (.tuple #[]), .dsl 0, .pure (.int .i64 (k : Int)), .pure (.int .i64 (IntKind.i64.wrap ((k : Int) + (1 : Int)))), .bsl 1 0 (IntKind.i64.wrap ((k : Int) + (1 : Int))).toNat (IntKind.i64.wrap ((k : Int) + (1 : Int))).toNat, .dsl 0, .pure (.int .i64 (k : Int)), .pure (.int .i64 (0 : Int)), .pure (.tuple #[]), .pure (.tuple #[]), .pure (.tuple #[]), .pure (.tuple #[]), .pure (.tuple #[]), .pure (.tuple #[]), .pure (.tuple #[]), .pure (.tuple #[]), .pure (.tuple #[]), .pure (.tuple #[]), .pure (.tuple #[]), .pure (.tuple #[]), .pure (.tuple #[]), .pure (.tuple #[]), .pure (.tuple #[]), .pure (.tuple #[])], [(1, { cells := [], opn := none, kind := .big (List.map dCell (List.replicate (IntKind.i64.wrap ((k : Int) + (1 : Int))).toNat (Value.int .i64 (0 : Int)).cells.toList).flatten) }), (0, { cells := [], opn := none, kind := .deep k c })])
def sumsOf_L3_A : LoopAt := ⟨66, loopAt Try.prog 66 0, 2, 21, 1, noFrame⟩
theorem sumsOf_L3_ok : (sumsOf_L3_A).OK := ⟨by show 2 ≤ 21; decide, by show 1 ≤ 2; decide, by kernel_rfl, rfl⟩
def sumsOf_L3_gs (k : Nat) (c : List D)  : Go.Ev.Rd → Option GS
  | .next 0 ds => ghost [.val 12, .made 3] (4 :: (5 :: (List.range' 13 15))) (sumsOf_L3_E k c).1 (sumsOf_L3_E k c).2 2 ds
  | .out 0 ds => ghost sumsOf_x3_0.live sumsOf_x3_0.junk (sumsOf_L3_E k c).1 (sumsOf_L3_E k c).2 2 ds
  | _ => none
def sumsOf_L3_ex : Nat → Option Nat
  | 0 => sumsOf_x3_0.ex
  | _ => none
def sumsOf_L3_ax : Go.Ev.Rd → AX
  | .next _ _ => .normal
  | .out j _ => axOf (sumsOf_L3_ex j)
def sumsOf_L3_S0 (k : Nat) (c : List D)  (ds : List D) : Option Go.Ev.Rd := pullD (α := Int × Nat × (List D)) (some (.tup ds)) (fun d => ((D.vi (D.at d 0)), (D.ln (D.at d 1)), (D.lc (D.at d 1)))) (fun (s12, s3n, s3c) => .tup [iD s12, .list s3n s3c]) fun (s12, s3n, s3c) => ((if s12 < (k : Int) then guardP ((0 : Int) ≤ s12 ∧ s12.toNat < k) (pullD (α := Int) (readD c (s12.toNat * 1) 1 false) (fun d => ((D.vi d))) (fun v0 => iD v0) fun v0 => (guardP ((0 : Int) ≤ s12 ∧ s12.toNat < (IntKind.i64.wrap ((k : Int) + (1 : Int))).toNat) (pullD (α := Int) (readD s3c (0 + s12.toNat * 1) 1 false) (fun d => ((D.vi d))) (fun v1 => iD v1) fun v1 => (guardP ((0 : Int) ≤ IntKind.i64.wrap (s12 + (1 : Int)) ∧ (IntKind.i64.wrap (s12 + (1 : Int))).toNat < (IntKind.i64.wrap ((k : Int) + (1 : Int))).toNat) (guardP (0 + (IntKind.i64.wrap (s12 + (1 : Int))).toNat * 1 + 1 ≤ s3c.length ∧ ∀ (u : D), u ∈ [dCell (.int .i64 (IntKind.i64.wrap (v1 + v0)))] → cellD u) (some (.next 0 [iD (IntKind.i64.wrap (s12 + (1 : Int))), .list (IntKind.i64.wrap ((k : Int) + (1 : Int))).toNat (List.append (List.take (0 + (IntKind.i64.wrap (s12 + (1 : Int))).toNat * 1) s3c ++ [dCell (.int .i64 (IntKind.i64.wrap (v1 + v0)))]) (List.drop (0 + (IntKind.i64.wrap (s12 + (1 : Int))).toNat * 1 + [dCell (.int .i64 (IntKind.i64.wrap (v1 + v0)))].length) s3c))]))))))) else some (.out 0 [.list (IntKind.i64.wrap ((k : Int) + (1 : Int))).toNat s3c])))
def sumsOf_L3_S (k : Nat) (c : List D)  : Go.Ev.Rd → Option Go.Ev.Rd
  | .next 0 ds => sumsOf_L3_S0 k c ds
  | _ => none
theorem sumsOf_L3_S_ok (k : Nat) (c : List D)  : ∀ s_ t_, sumsOf_L3_S k c s_ = some t_ → Step (ctx [66] sumsOf_sp) Tabs sumsOf_L3_A (stateOf (sumsOf_L3_gs k c s_)) (stateOf (sumsOf_L3_gs k c t_)) (sumsOf_L3_ax t_) ∧ EndOK sumsOf_L3_A.nx sumsOf_L3_A.low (sumsOf_L3_gs k c) t_
  | .next 0 ds, t_, h => by
    have h_ : sumsOf_L3_S0 k c ds = some t_ := h
    clear h
    unfold sumsOf_L3_S0 at h_
    obtain ⟨⟨s12, s3n, s3c⟩, e0, h0⟩ := pullD_elim h_
    clear h_
    obtain rfl := tup_inj e0
    by_cases b1_ : s12 < (k : Int)
    · have h2_ := (if_pos b1_).symm.trans h0
      obtain ⟨f3_, h4_⟩ := guardP_elim h2_
      obtain ⟨v0, f5_, h6_⟩ := pullD_elim h4_
      replace f5_ := readD_elim f5_
      obtain ⟨f7_, h8_⟩ := guardP_elim h6_
      obtain ⟨v1, f9_, h10_⟩ := pullD_elim h8_
      replace f9_ := readD_elim f9_
      obtain ⟨f11_, h12_⟩ := guardP_elim h10_
      obtain ⟨f13_, h14_⟩ := guardP_elim h12_
      obtain rfl := Option.some.inj h14_
      exact ⟨step_pc 3000 (bT 1 []) [iD v0, iD v1] [c_d b1_, c_f f3_, c_f f5_, c_f f7_, c_f f9_, c_f f11_, c_f f13_] [] _ rfl (by kernel_rfl) (by kernel_rfl) (by kernel_rfl) (by kernel_rfl) (by kernel_rfl) (by kernel_rfl), trivial⟩
    have h2_ := (if_neg b1_).symm.trans h0
    obtain rfl := Option.some.inj h2_
    exact ⟨step_pc 3000 (bF 1 []) [] [c_n b1_] [] _ rfl (by kernel_rfl) (by kernel_rfl) (by kernel_rfl) (by kernel_rfl) (by kernel_rfl) (by kernel_rfl), by kernel_rfl, by kernel_rfl⟩
  | .next (_ + 1) _, _, h => by cases h
  | .out _ _, _, h => by cases h
theorem sumsOf_L3_go (k : Nat) (c : List D)  {q : Nat} {ds : List D} {j : Nat} {es : List D} (h : runR (sumsOf_L3_S k c) (.next q ds) = some (.out j es)) : Runs (ctx [66] sumsOf_sp) Tabs sumsOf_L3_A (stateOf (sumsOf_L3_gs k c (.next q ds))) (stateOf (sumsOf_L3_gs k c (.out j es))) (sumsOf_L3_ax (.out j es)) ∧ (nxtOf (sumsOf_L3_gs k c (.out j es)), lowGS (sumsOf_L3_gs k c (.out j es))) = (sumsOf_L3_A.nx, sumsOf_L3_A.low) :=
  runs_of' (good true _ _) sumsOf_L3_ok (ax := sumsOf_L3_ax) (fun _ _ => rfl) (fun _ _ => axOf_end _) (sumsOf_L3_S_ok k c) h
theorem sumsOf_L3_in0 (k : Nat) (c : List D)  {es : List D} (h : runR (sumsOf_L3_S k c) (.next 0 [iD ((0 : Int)), .list ((IntKind.i64.wrap ((k : Int) + (1 : Int))).toNat) ((List.map dCell (List.replicate (IntKind.i64.wrap ((k : Int) + (1 : Int))).toNat (Value.int .i64 (0 : Int)).cells.toList).flatten))]) = some (.out 0 es)) : LoopC (loopAt Try.prog 66 0) (sumsOf_L3_E k c) 2 noFrame sumsOf_x3_0 es :=
  have r := sumsOf_L3_go k c h
  loopin_as rfl (loop_in (l := sumsOf_L3_A) (E := (sumsOf_L3_E k c)) (S := stateOf (sumsOf_L3_gs k c (.next 0 [iD ((0 : Int)), .list ((IntKind.i64.wrap ((k : Int) + (1 : Int))).toNat) ((List.map dCell (List.replicate (IntKind.i64.wrap ((k : Int) + (1 : Int))).toNat (Value.int .i64 (0 : Int)).cells.toList).flatten))]))) (ns := nsOf (sumsOf_L3_gs k c (.next 0 [iD ((0 : Int)), .list ((IntKind.i64.wrap ((k : Int) + (1 : Int))).toNat) ((List.map dCell (List.replicate (IntKind.i64.wrap ((k : Int) + (1 : Int))).toNat (Value.int .i64 (0 : Int)).cells.toList).flatten))]))) sumsOf_L3_ok r.1 r.2 (by kernel_rfl) (by kernel_rfl) (by kernel_rfl) (by kernel_rfl))
def sumsOf_M (k : Nat) (c : List D) : Option D := guardP ((0 : Int) ≤ IntKind.i64.wrap ((k : Int) + (1 : Int)) ∧ IntKind.i64.wrap ((k : Int) + (1 : Int)) ≤ IntKind.i64.wrap ((k : Int) + (1 : Int)) ∧ 8 * (IntKind.i64.wrap ((k : Int) + (1 : Int))).toNat ≤ 140737488355328 ∧ (IntKind.i64.wrap ((k : Int) + (1 : Int))).toNat ≤ 140737488355328) (guardP ((IntKind.i64.wrap ((k : Int) + (1 : Int))).toNat ≤ (IntKind.i64.wrap ((k : Int) + (1 : Int))).toNat) (bindL (runR (sumsOf_L3_S k c) (.next 0 [iD ((0 : Int)), .list ((IntKind.i64.wrap ((k : Int) + (1 : Int))).toNat) ((List.map dCell (List.replicate (IntKind.i64.wrap ((k : Int) + (1 : Int))).toNat (Value.int .i64 (0 : Int)).cells.toList).flatten))])) fun j ds => (if j = 0 then pullD (α := Nat × (List D)) (some (.tup ds)) (fun d => ((D.ln (D.at d 0)), (D.lc (D.at d 0)))) (fun (k0, c1) => .tup [.list k0 c1]) fun (k0, c1) => (some (.list (IntKind.i64.wrap ((k : Int) + (1 : Int))).toNat c1)) else none)))
theorem sumsOf_M_ok (k : Nat) (c : List D) {r : D} (h : sumsOf_M k c = some r) : Con 66 [.list k c] r := by
  unfold sumsOf_M at h
  obtain ⟨f1_, h2_⟩ := guardP_elim h
  obtain ⟨f3_, h4_⟩ := guardP_elim h2_
  obtain ⟨j, ds, e5_, h6_⟩ := bindL_elim h4_
  by_cases j7_ : j = 0
  · have h10_ := (if_pos j7_).symm.trans h6_
    clear h6_
    subst j7_
    obtain ⟨⟨k0, c1⟩, e8_, h11_⟩ := pullD_elim h10_
    clear h10_
    obtain rfl := tup_inj e8_
    have k9_ := sumsOf_L3_in0 k c e5_
    obtain rfl := Option.some.inj h11_
    exact con_pc (op := true) (I := [66]) (sp := sumsOf_sp) 3000 [] [.tup [iD (Int.ofNat 0), .list k0 c1]] [c_f f1_, c_f f3_] [k_l k9_ [] [.tup [iD (Int.ofNat 0), .list k0 c1]] []] (by kernel_rfl)
  have h12_ := (if_neg j7_).symm.trans h6_
  clear h6_
  cases h12_
def m_66 (ds : List D) : Option D := pullD (α := Nat × (List D)) (some (.tup ds)) (fun d => ((D.ln (D.at d 0)), (D.lc (D.at d 0)))) (fun (k, c) => .tup [.list k c]) fun (k, c) => sumsOf_M k c
theorem m_66_ok {ds : List D} {r : D} (h : m_66 ds = some r) : Con 66 ds r := by
  unfold m_66 at h
  obtain ⟨⟨k, c⟩, e0, h0⟩ := pullD_elim h
  obtain rfl := tup_inj e0
  exact sumsOf_M_ok k c h0
theorem m_66_eq (k : Nat) (c : List D) : m_66 [.list k c] = sumsOf_M k c := pullD_some (k, c) rfl rfl
def sumOf_sp : List LSpec := []
def sumOf_M (k : Nat) (c : List D) : Option D := pullD (α := Nat × (List D)) (m_66 [.list k c]) (fun d => ((D.ln d), (D.lc d))) (fun (k0, c1) => .list k0 c1) fun (k0, c1) => (guardP ((0 : Int) ≤ (k : Int) ∧ ((k : Int)).toNat < k0) (pullD (α := Int) (readD c1 (((k : Int)).toNat * 1) 1 false) (fun d => ((D.vi d))) (fun v2 => iD v2) fun v2 => (some (iD v2))))
theorem sumOf_M_ok (k : Nat) (c : List D) {r : D} (h : sumOf_M k c = some r) : Con 52 [.list k c] r := by
  unfold sumOf_M at h
  obtain ⟨⟨k0, c1⟩, f1_, h2_⟩ := pullD_elim h
  replace f1_ := m_66_ok f1_
  obtain ⟨f3_, h4_⟩ := guardP_elim h2_
  obtain ⟨v2, f5_, h6_⟩ := pullD_elim h4_
  replace f5_ := readD_elim f5_
  obtain rfl := Option.some.inj h6_
  exact con_pc (op := true) (I := [52]) (sp := sumOf_sp) 3000 [] [.list k0 c1, iD v2] [c_f f3_, c_f f5_] [k_c f1_] (by kernel_rfl)
def m_52 (ds : List D) : Option D := pullD (α := Nat × (List D)) (some (.tup ds)) (fun d => ((D.ln (D.at d 0)), (D.lc (D.at d 0)))) (fun (k, c) => .tup [.list k c]) fun (k, c) => sumOf_M k c
theorem m_52_ok {ds : List D} {r : D} (h : m_52 ds = some r) : Con 52 ds r := by
  unfold m_52 at h
  obtain ⟨⟨k, c⟩, e0, h0⟩ := pullD_elim h
  obtain rfl := tup_inj e0
  exact sumOf_M_ok k c h0
theorem m_52_eq (k : Nat) (c : List D) : m_52 [.list k c] = sumOf_M k c := pullD_some (k, c) rfl rfl
def chkWindow_x71_2_0 : LExit := ⟨some 0, [], (4 :: (6 :: (List.range' 9 13)))⟩
def chkWindow_x71_2_1 : LExit := ⟨none, [.val 4], (6 :: (List.range' 9 13))⟩
def chkWindow_sp : List LSpec := [⟨71, 2, [chkWindow_x71_2_0, chkWindow_x71_2_1]⟩]
def chkWindow_L71_2_1_E (ka : Nat) (ca : List D) (kb : Nat) (cb : List D)  : List AV × AHeap := ([.dsl 1, .ptr 3 0, .ptr 4 0, .pure (.tuple #[]), .pure (.int .i64 (0 : Int)), .pure (.tuple #[]), .pure (.tuple #[]), .dsl 1, .pure (.int .i64 (kb : Int)), .pure (.int .i64 (0 : Int)), .pure (.tuple #[]), .pure (.tuple #[]), .pure (.tuple #[]), .pure (.tuple #[]), .pure (.tuple #[]), .pure (.tuple #[]), .pure (.tuple #[]), .pure (.tuple #[]), .pure (.tuple #[]), .pure (.tuple #[]), .pure (.tuple #[]), .pure (.tuple #[])], [(4, { cells := [.pure (.int .i64 (100 : Int))], opn := none, kind := .cells }), (3, { cells := [.pure (.int .i64 (-100 : Int))], opn := none, kind := .cells }), (2, { cells := [.dsl 0, .dsl 1], opn := none, kind := .cells }), (1, { cells := [], opn := none, kind := .deep kb cb }), (0, { cells := [], opn := none, kind := .deep ka ca })])
def chkWindow_L71_2_1_A : LoopAt := ⟨71, loopAt Try.prog 71 0, 20, 35, 20, noFrame⟩
theorem chkWindow_L71_2_1_ok : (chkWindow_L71_2_1_A).OK := ⟨by show 20 ≤ 35; decide, by show 20 ≤ 20; decide, by kernel_rfl, rfl⟩
def chkWindow_L71_2_1_gs (ka : Nat) (ca : List D) (kb : Nat) (cb : List D)  : Go.Ev.Rd → Option GS
  | .next 0 ds => ghost [.val 9] (4 :: (6 :: (List.range' 10 12))) (chkWindow_L71_2_1_E ka ca kb cb).1 (chkWindow_L71_2_1_E ka ca kb cb).2 20 ds
  | .out 0 ds => ghost chkWindow_x71_2_0.live chkWindow_x71_2_0.junk (chkWindow_L71_2_1_E ka ca kb cb).1 (chkWindow_L71_2_1_E ka ca kb cb).2 20 ds
  | .out 1 ds => ghost chkWindow_x71_2_1.live chkWindow_x71_2_1.junk (chkWindow_L71_2_1_E ka ca kb cb).1 (chkWindow_L71_2_1_E ka ca kb cb).2 20 ds
  | _ => none
def chkWindow_L71_2_1_ex : Nat → Option Nat
  | 0 => chkWindow_x71_2_0.ex
  | 1 => chkWindow_x71_2_1.ex
  | _ => none
def chkWindow_L71_2_1_ax : Go.Ev.Rd → AX
  | .next _ _ => .normal
  | .out j _ => axOf (chkWindow_L71_2_1_ex j)
def chkWindow_L71_2_1_S0 (ka : Nat) (ca : List D) (kb : Nat) (cb : List D)  (ds : List D) : Option Go.Ev.Rd := pullD (α := Int) (some (.tup ds)) (fun d => ((D.vi (D.at d 0)))) (fun s9 => .tup [iD s9]) fun s9 => ((if s9 < (kb : Int) then guardP ((0 : Int) ≤ s9 ∧ s9.toNat < kb) (pullD (α := Int) (readD cb (s9.toNat * 1) 1 false) (fun d => ((D.vi d))) (fun v0 => iD v0) fun v0 => ((if v0 < (-100 : Int) then some (.out 1 [iD (2 : Int)]) else (if v0 > (100 : Int) then some (.out 1 [iD (2 : Int)]) else some (.next 0 [iD (IntKind.i64.wrap (s9 + (1 : Int)))]))))) else some (.out 0 [])))
def chkWindow_L71_2_1_S (ka : Nat) (ca : List D) (kb : Nat) (cb : List D)  : Go.Ev.Rd → Option Go.Ev.Rd
  | .next 0 ds => chkWindow_L71_2_1_S0 ka ca kb cb ds
  | _ => none
theorem chkWindow_L71_2_1_S_ok (ka : Nat) (ca : List D) (kb : Nat) (cb : List D)  : ∀ s_ t_, chkWindow_L71_2_1_S ka ca kb cb s_ = some t_ → Step (ctx [17, 50, 59, 71] chkWindow_sp) Tabs chkWindow_L71_2_1_A (stateOf (chkWindow_L71_2_1_gs ka ca kb cb s_)) (stateOf (chkWindow_L71_2_1_gs ka ca kb cb t_)) (chkWindow_L71_2_1_ax t_) ∧ EndOK chkWindow_L71_2_1_A.nx chkWindow_L71_2_1_A.low (chkWindow_L71_2_1_gs ka ca kb cb) t_
  | .next 0 ds, t_, h => by
    have h_ : chkWindow_L71_2_1_S0 ka ca kb cb ds = some t_ := h
    clear h
    unfold chkWindow_L71_2_1_S0 at h_
    obtain ⟨s9, e0, h0⟩ := pullD_elim h_
    clear h_
    obtain rfl := tup_inj e0
    by_cases b1_ : s9 < (kb : Int)
    · have h2_ := (if_pos b1_).symm.trans h0
      obtain ⟨f3_, h4_⟩ := guardP_elim h2_
      obtain ⟨v0, f5_, h6_⟩ := pullD_elim h4_
      replace f5_ := readD_elim f5_
      by_cases b7_ : v0 < (-100 : Int)
      · have h8_ := (if_pos b7_).symm.trans h6_
        obtain rfl := Option.some.inj h8_
        exact ⟨step_pc 3000 (bT 6 []) [iD v0] [c_d b1_, c_f f3_, c_f f5_, c_d b7_, c_d b7_, c_d b7_, c_d b7_, c_T] [] _ rfl (by kernel_rfl) (by kernel_rfl) (by kernel_rfl) (by kernel_rfl) (by kernel_rfl) (by kernel_rfl), by kernel_rfl, by kernel_rfl⟩
      have h8_ := (if_neg b7_).symm.trans h6_
      by_cases b9_ : v0 > (100 : Int)
      · have h10_ := (if_pos b9_).symm.trans h8_
        obtain rfl := Option.some.inj h10_
        exact ⟨step_pc 3000 (bT 1 (bF 4 (bT 1 []))) [iD v0] [c_d b1_, c_f f3_, c_f f5_, c_n b7_, c_n b7_, c_n b7_, c_n b7_, c_d b9_] [] _ rfl (by kernel_rfl) (by kernel_rfl) (by kernel_rfl) (by kernel_rfl) (by kernel_rfl) (by kernel_rfl), by kernel_rfl, by kernel_rfl⟩
      have h10_ := (if_neg b9_).symm.trans h8_
      obtain rfl := Option.some.inj h10_
      exact ⟨step_pc 3000 (bT 1 (bF 5 [])) [iD v0] [c_d b1_, c_f f3_, c_f f5_, c_n b7_, c_n b7_, c_n b7_, c_n b7_, c_n b9_] [] _ rfl (by kernel_rfl) (by kernel_rfl) (by kernel_rfl) (by kernel_rfl) (by kernel_rfl) (by kernel_rfl), trivial⟩
    have h2_ := (if_neg b1_).symm.trans h0
    obtain rfl := Option.some.inj h2_
    exact ⟨step_pc 3000 (bF 1 []) [] [c_n b1_] [] _ rfl (by kernel_rfl) (by kernel_rfl) (by kernel_rfl) (by kernel_rfl) (by kernel_rfl) (by kernel_rfl), by kernel_rfl, by kernel_rfl⟩
  | .next (_ + 1) _, _, h => by cases h
  | .out _ _, _, h => by cases h
theorem chkWindow_L71_2_1_go (ka : Nat) (ca : List D) (kb : Nat) (cb : List D)  {q : Nat} {ds : List D} {j : Nat} {es : List D} (h : runR (chkWindow_L71_2_1_S ka ca kb cb) (.next q ds) = some (.out j es)) : Runs (ctx [17, 50, 59, 71] chkWindow_sp) Tabs chkWindow_L71_2_1_A (stateOf (chkWindow_L71_2_1_gs ka ca kb cb (.next q ds))) (stateOf (chkWindow_L71_2_1_gs ka ca kb cb (.out j es))) (chkWindow_L71_2_1_ax (.out j es)) ∧ (nxtOf (chkWindow_L71_2_1_gs ka ca kb cb (.out j es)), lowGS (chkWindow_L71_2_1_gs ka ca kb cb (.out j es))) = (chkWindow_L71_2_1_A.nx, chkWindow_L71_2_1_A.low) :=
  runs_of' (good true _ _) chkWindow_L71_2_1_ok (ax := chkWindow_L71_2_1_ax) (fun _ _ => rfl) (fun _ _ => axOf_end _) (chkWindow_L71_2_1_S_ok ka ca kb cb) h
theorem chkWindow_L71_2_1_in0 (ka : Nat) (ca : List D) (kb : Nat) (cb : List D)  {es : List D} (h : runR (chkWindow_L71_2_1_S ka ca kb cb) (.next 0 [iD ((0 : Int))]) = some (.out 0 es)) : LoopC (loopAt Try.prog 71 0) (chkWindow_L71_2_1_E ka ca kb cb) 20 noFrame chkWindow_x71_2_0 es :=
  have r := chkWindow_L71_2_1_go ka ca kb cb h
  loopin_as rfl (loop_in (l := chkWindow_L71_2_1_A) (E := (chkWindow_L71_2_1_E ka ca kb cb)) (S := stateOf (chkWindow_L71_2_1_gs ka ca kb cb (.next 0 [iD ((0 : Int))]))) (ns := nsOf (chkWindow_L71_2_1_gs ka ca kb cb (.next 0 [iD ((0 : Int))]))) chkWindow_L71_2_1_ok r.1 r.2 (by kernel_rfl) (by kernel_rfl) (by kernel_rfl) (by kernel_rfl))
theorem chkWindow_L71_2_1_in1 (ka : Nat) (ca : List D) (kb : Nat) (cb : List D)  {es : List D} (h : runR (chkWindow_L71_2_1_S ka ca kb cb) (.next 0 [iD ((0 : Int))]) = some (.out 1 es)) : LoopC (loopAt Try.prog 71 0) (chkWindow_L71_2_1_E ka ca kb cb) 20 noFrame chkWindow_x71_2_1 es :=
  have r := chkWindow_L71_2_1_go ka ca kb cb h
  loopin_as rfl (loop_in (l := chkWindow_L71_2_1_A) (E := (chkWindow_L71_2_1_E ka ca kb cb)) (S := stateOf (chkWindow_L71_2_1_gs ka ca kb cb (.next 0 [iD ((0 : Int))]))) (ns := nsOf (chkWindow_L71_2_1_gs ka ca kb cb (.next 0 [iD ((0 : Int))]))) chkWindow_L71_2_1_ok r.1 r.2 (by kernel_rfl) (by kernel_rfl) (by kernel_rfl) (by kernel_rfl))
def chkWindow_L71_2_E (ka : Nat) (ca : List D) (kb : Nat) (cb : List D)  : List AV × AHeap := ([.dsl 0, .ptr 3 0, .ptr 4 0, .pure (.tuple #[]), .pure (.int .i64 (0 : Int)), .pure (.tuple #[]), .pure (.tuple #[]), .dsl 0, .pure (.int .i64 (ka : Int)), .pure (.int .i64 (0 : Int)), .pure (.tuple #[]), .pure (.tuple #[]), .pure (.tuple #[]), .pure (.tuple #[]), .pure (.tuple #[]), .pure (.tuple #[]), .pure (.tuple #[]), .pure (.tuple #[]), .pure (.tuple #[]), .pure (.tuple #[]), .pure (.tuple #[]), .pure (.tuple #[])], [(4, { cells := [.pure (.int .i64 (100 : Int))], opn := none, kind := .cells }), (3, { cells := [.pure (.int .i64 (-100 : Int))], opn := none, kind := .cells }), (2, { cells := [.dsl 0, .dsl 1], opn := none, kind := .cells }), (1, { cells := [], opn := none, kind := .deep kb cb }), (0, { cells := [], opn := none, kind := .deep ka ca })])
def chkWindow_L71_2_A : LoopAt := ⟨71, loopAt Try.prog 71 0, 5, 20, 5, noFrame⟩
theorem chkWindow_L71_2_ok : (chkWindow_L71_2_A).OK := ⟨by show 5 ≤ 20; decide, by show 5 ≤ 5; decide, by kernel_rfl, rfl⟩
def chkWindow_L71_2_gs (ka : Nat) (ca : List D) (kb : Nat) (cb : List D)  : Go.Ev.Rd → Option GS
  | .next 0 ds => ghost [.val 9] (4 :: (6 :: (List.range' 10 12))) (chkWindow_L71_2_E ka ca kb cb).1 (chkWindow_L71_2_E ka ca kb cb).2 5 ds
  | .out 0 ds => ghost chkWindow_x71_2_0.live chkWindow_x71_2_0.junk (chkWindow_L71_2_E ka ca kb cb).1 (chkWindow_L71_2_E ka ca kb cb).2 5 ds
  | .out 1 ds => ghost chkWindow_x71_2_1.live chkWindow_x71_2_1.junk (chkWindow_L71_2_E ka ca kb cb).1 (chkWindow_L71_2_E ka ca kb cb).2 5 ds
  | _ => none
def chkWindow_L71_2_ex : Nat → Option Nat
  | 0 => chkWindow_x71_2_0.ex
  | 1 => chkWindow_x71_2_1.ex
  | _ => none
def chkWindow_L71_2_ax : Go.Ev.Rd → AX
  | .next _ _ => .normal
  | .out j _ => axOf (chkWindow_L71_2_ex j)
def chkWindow_L71_2_S0 (ka : Nat) (ca : List D) (kb : Nat) (cb : List D)  (ds : List D) : Option Go.Ev.Rd := pullD (α := Int) (some (.tup ds)) (fun d => ((D.vi (D.at d 0)))) (fun s9 => .tup [iD s9]) fun s9 => ((if s9 < (ka : Int) then guardP ((0 : Int) ≤ s9 ∧ s9.toNat < ka) (pullD (α := Int) (readD ca (s9.toNat * 1) 1 false) (fun d => ((D.vi d))) (fun v0 => iD v0) fun v0 => ((if v0 < (-100 : Int) then some (.out 1 [iD (2 : Int)]) else (if v0 > (100 : Int) then some (.out 1 [iD (2 : Int)]) else some (.next 0 [iD (IntKind.i64.wrap (s9 + (1 : Int)))]))))) else some (.out 0 [])))
def chkWindow_L71_2_S (ka : Nat) (ca : List D) (kb : Nat) (cb : List D)  : Go.Ev.Rd → Option Go.Ev.Rd
  | .next 0 ds => chkWindow_L71_2_S0 ka ca kb cb ds
  | _ => none
theorem chkWindow_L71_2_S_ok (ka : Nat) (ca : List D) (kb : Nat) (cb : List D)  : ∀ s_ t_, chkWindow_L71_2_S ka ca kb cb s_ = some t_ → Step (ctx [17, 50, 59, 71] chkWindow_sp) Tabs chkWindow_L71_2_A (stateOf (chkWindow_L71_2_gs ka ca kb cb s_)) (stateOf (chkWindow_L71_2_gs ka ca kb cb t_)) (chkWindow_L71_2_ax t_) ∧ EndOK chkWindow_L71_2_A.nx chkWindow_L71_2_A.low (chkWindow_L71_2_gs ka ca kb cb) t_
  | .next 0 ds, t_, h => by
    have h_ : chkWindow_L71_2_S0 ka ca kb cb ds = some t_ := h
    clear h
    unfold chkWindow_L71_2_S0 at h_
    obtain ⟨s9, e0, h0⟩ := pullD_elim h_
    clear h_
    obtain rfl := tup_inj e0
    by_cases b1_ : s9 < (ka : Int)
    · have h2_ := (if_pos b1_).symm.trans h0
      obtain ⟨f3_, h4_⟩ := guardP_elim h2_
      obtain ⟨v0, f5_, h6_⟩ := pullD_elim h4_
      replace f5_ := readD_elim f5_
      by_cases b7_ : v0 < (-100 : Int)
      · have h8_ := (if_pos b7_).symm.trans h6_
        obtain rfl := Option.some.inj h8_
        exact ⟨step_pc 3000 (bT 6 []) [iD v0] [c_d b1_, c_f f3_, c_f f5_, c_d b7_, c_d b7_, c_d b7_, c_d b7_, c_T] [] _ rfl (by kernel_rfl) (by kernel_rfl) (by kernel_rfl) (by kernel_rfl) (by kernel_rfl) (by kernel_rfl), by kernel_rfl, by kernel_rfl⟩
      have h8_ := (if_neg b7_).symm.trans h6_
      by_cases b9_ : v0 > (100 : Int)
      · have h10_ := (if_pos b9_).symm.trans h8_
        obtain rfl := Option.some.inj h10_
        exact ⟨step_pc 3000 (bT 1 (bF 4 (bT 1 []))) [iD v0] [c_d b1_, c_f f3_, c_f f5_, c_n b7_, c_n b7_, c_n b7_, c_n b7_, c_d b9_] [] _ rfl (by kernel_rfl) (by kernel_rfl) (by kernel_rfl) (by kernel_rfl) (by kernel_rfl) (by kernel_rfl), by kernel_rfl, by kernel_rfl⟩
      have h10_ := (if_neg b9_).symm.trans h8_
      obtain rfl := Option.some.inj h10_
      exact ⟨step_pc 3000 (bT 1 (bF 5 [])) [iD v0] [c_d b1_, c_f f3_, c_f f5_, c_n b7_, c_n b7_, c_n b7_, c_n b7_, c_n b9_] [] _ rfl (by kernel_rfl) (by kernel_rfl) (by kernel_rfl) (by kernel_rfl) (by kernel_rfl) (by kernel_rfl), trivial⟩
    have h2_ := (if_neg b1_).symm.trans h0
    obtain rfl := Option.some.inj h2_
    exact ⟨step_pc 3000 (bF 1 []) [] [c_n b1_] [] _ rfl (by kernel_rfl) (by kernel_rfl) (by kernel_rfl) (by kernel_rfl) (by kernel_rfl) (by kernel_rfl), by kernel_rfl, by kernel_rfl⟩
  | .next (_ + 1) _, _, h => by cases h
  | .out _ _, _, h => by cases h
theorem chkWindow_L71_2_go (ka : Nat) (ca : List D) (kb : Nat) (cb : List D)  {q : Nat} {ds : List D} {j : Nat} {es : List D} (h : runR (chkWindow_L71_2_S ka ca kb cb) (.next q ds) = some (.out j es)) : Runs (ctx [17, 50, 59, 71] chkWindow_sp) Tabs chkWindow_L71_2_A (stateOf (chkWindow_L71_2_gs ka ca kb cb (.next q ds))) (stateOf (chkWindow_L71_2_gs ka ca kb cb (.out j es))) (chkWindow_L71_2_ax (.out j es)) ∧ (nxtOf (chkWindow_L71_2_gs ka ca kb cb (.out j es)), lowGS (chkWindow_L71_2_gs ka ca kb cb (.out j es))) = (chkWindow_L71_2_A.nx, chkWindow_L71_2_A.low) :=
  runs_of' (good true _ _) chkWindow_L71_2_ok (ax := chkWindow_L71_2_ax) (fun _ _ => rfl) (fun _ _ => axOf_end _) (chkWindow_L71_2_S_ok ka ca kb cb) h
theorem chkWindow_L71_2_in0 (ka : Nat) (ca : List D) (kb : Nat) (cb : List D)  {es : List D} (h : runR (chkWindow_L71_2_S ka ca kb cb) (.next 0 [iD ((0 : Int))]) = some (.out 0 es)) : LoopC (loopAt Try.prog 71 0) (chkWindow_L71_2_E ka ca kb cb) 5 noFrame chkWindow_x71_2_0 es :=
  have r := chkWindow_L71_2_go ka ca kb cb h
  loopin_as rfl (loop_in (l := chkWindow_L71_2_A) (E := (chkWindow_L71_2_E ka ca kb cb)) (S := stateOf (chkWindow_L71_2_gs ka ca kb cb (.next 0 [iD ((0 : Int))]))) (ns := nsOf (chkWindow_L71_2_gs ka ca kb cb (.next 0 [iD ((0 : Int))]))) chkWindow_L71_2_ok r.1 r.2 (by kernel_rfl) (by kernel_rfl) (by kernel_rfl) (by kernel_rfl))
theorem chkWindow_L71_2_in1 (ka : Nat) (ca : List D) (kb : Nat) (cb : List D)  {es : List D} (h : runR (chkWindow_L71_2_S ka ca kb cb) (.next 0 [iD ((0 : Int))]) = some (.out 1 es)) : LoopC (loopAt Try.prog 71 0) (chkWindow_L71_2_E ka ca kb cb) 5 noFrame chkWindow_x71_2_1 es :=
  have r := chkWindow_L71_2_go ka ca kb cb h
  loopin_as rfl (loop_in (l := chkWindow_L71_2_A) (E := (chkWindow_L71_2_E ka ca kb cb)) (S := stateOf (chkWindow_L71_2_gs ka ca kb cb (.next 0 [iD ((0 : Int))]))) (ns := nsOf (chkWindow_L71_2_gs ka ca kb cb (.next 0 [iD ((0 : Int))]))) chkWindow_L71_2_ok r.1 r.2 (by kernel_rfl) (by kernel_rfl) (by kernel_rfl) (by kernel_rfl))
def chkWindow_M (ka : Nat) (ca : List D) (kb : Nat) (cb : List D) : Option D := (if (ka : Int) ≠ (kb : Int) then some (iD (10 : Int)) else pullD (α := Int) (m_51 [iD (ka : Int), iD (15 : Int)]) (fun d => ((D.vi d))) (fun r0 => iD r0) fun r0 => (bindL (runR (chkWindow_L71_2_S ka ca kb cb) (.next 0 [iD ((0 : Int))])) fun j ds => (if j = 0 then pullD (some (.tup ds)) (fun _ => ()) (fun _ => .tup []) fun _ => (bindL (runR (chkWindow_L71_2_1_S ka ca kb cb) (.next 0 [iD ((0 : Int))])) fun j ds => (if j = 0 then pullD (some (.tup ds)) (fun _ => ()) (fun _ => .tup []) fun _ => (pullD (α := Int) (m_47 [.list 3 [iD r0, iD (0 : Int), iD (0 : Int)]]) (fun d => ((D.vi d))) (fun r1 => iD r1) fun r1 => ((if r1 ≠ (0 : Int) then some (iD r1) else pullD (α := Int) (m_52 [.list ka ca]) (fun d => ((D.vi d))) (fun r2 => iD r2) fun r2 => (pullD (α := Int) (m_52 [.list kb cb]) (fun d => ((D.vi d))) (fun r3 => iD r3) fun r3 => ((if IntKind.i64.wrap (r2 + r3) ≠ (0 : Int) then some (iD (13 : Int)) else some (iD (0 : Int)))))))) else if j = 1 then pullD (α := Int) (some (.tup ds)) (fun d => ((D.vi (D.at d 0)))) (fun l4 => .tup [iD l4]) fun l4 => (pullD (α := Int) (m_47 [.list 3 [iD r0, iD (0 : Int), iD l4]]) (fun d => ((D.vi d))) (fun r5 => iD r5) fun r5 => ((if r5 ≠ (0 : Int) then some (iD r5) else pullD (α := Int) (m_52 [.list ka ca]) (fun d => ((D.vi d))) (fun r6 => iD r6) fun r6 => (pullD (α := Int) (m_52 [.list kb cb]) (fun d => ((D.vi d))) (fun r7 => iD r7) fun r7 => ((if IntKind.i64.wrap (r6 + r7) ≠ (0 : Int) then some (iD (13 : Int)) else some (iD (0 : Int)))))))) else none)) else if j = 1 then pullD (α := Int) (some (.tup ds)) (fun d => ((D.vi (D.at d 0)))) (fun l8 => .tup [iD l8]) fun l8 => (bindL (runR (chkWindow_L71_2_1_S ka ca kb cb) (.next 0 [iD ((0 : Int))])) fun j ds => (if j = 0 then pullD (some (.tup ds)) (fun _ => ()) (fun _ => .tup []) fun _ => (pullD (α := Int) (m_47 [.list 3 [iD r0, iD l8, iD (0 : Int)]]) (fun d => ((D.vi d))) (fun r9 => iD r9) fun r9 => ((if r9 ≠ (0 : Int) then some (iD r9) else pullD (α := Int) (m_52 [.list ka ca]) (fun d => ((D.vi d))) (fun r10 => iD r10) fun r10 => (pullD (α := Int) (m_52 [.list kb cb]) (fun d => ((D.vi d))) (fun r11 => iD r11) fun r11 => ((if IntKind.i64.wrap (r10 + r11) ≠ (0 : Int) then some (iD (13 : Int)) else some (iD (0 : Int)))))))) else if j = 1 then pullD (α := Int) (some (.tup ds)) (fun d => ((D.vi (D.at d 0)))) (fun l12 => .tup [iD l12]) fun l12 => (pullD (α := Int) (m_47 [.list 3 [iD r0, iD l8, iD l12]]) (fun d => ((D.vi d))) (fun r13 => iD r13) fun r13 => ((if r13 ≠ (0 : Int) then some (iD r13) else pullD (α := Int) (m_52 [.list ka ca]) (fun d => ((D.vi d))) (fun r14 => iD r14) fun r14 => (pullD (α := Int) (m_52 [.list kb cb]) (fun d => ((D.vi d))) (fun r15 => iD r15) fun r15 => ((if IntKind.i64.wrap (r14 + r15) ≠ (0 : Int) then some (iD (13 : Int)) else some (iD (0 : Int)))))))) else none)) else none)))
theorem chkWindow_M_ok (ka : Nat) (ca : List D) (kb : Nat) (cb : List D) {r : D} (h : chkWindow_M ka ca kb cb = some r) : Con 17 [.agg [.list ka ca, .list kb cb]] r := by
  unfold chkWindow_M at h
  by_cases b1_ : (ka : Int) ≠ (kb : Int)
  · have h2_ := (if_pos b1_).symm.trans h
    obtain rfl := Option.some.inj h2_
    exact con_pc (op := true) (I := [17, 50, 59, 71]) (sp := chkWindow_sp) 3000 (bT 1 []) [] [c_b b1_] [] (by kernel_rfl)
  have h2_ := (if_neg b1_).symm.trans h
  have b3_ : (ka : Int) = (kb : Int) := by first | exact b1_ | simpa using b1_
  obtain ⟨r0, f4_, h5_⟩ := pullD_elim h2_
  replace f4_ := m_51_ok f4_
  obtain ⟨j, ds, e6_, h7_⟩ := bindL_elim h5_
  by_cases j8_ : j = 0
  · have h11_ := (if_pos j8_).symm.trans h7_
    clear h7_
    subst j8_
    obtain ⟨⟨⟩, e9_, h12_⟩ := pullD_elim h11_
    clear h11_
    obtain rfl := tup_inj e9_
    have k10_ := chkWindow_L71_2_in0 ka ca kb cb e6_
    obtain ⟨j, ds, e13_, h14_⟩ := bindL_elim h12_
    by_cases j15_ : j = 0
    · have h18_ := (if_pos j15_).symm.trans h14_
      clear h14_
      subst j15_
      obtain ⟨⟨⟩, e16_, h19_⟩ := pullD_elim h18_
      clear h18_
      obtain rfl := tup_inj e16_
      have k17_ := chkWindow_L71_2_1_in0 ka ca kb cb e13_
      obtain ⟨r1, f20_, h21_⟩ := pullD_elim h19_
      replace f20_ := m_47_ok f20_
      by_cases b22_ : r1 ≠ (0 : Int)
      · have h23_ := (if_pos b22_).symm.trans h21_
        obtain rfl := Option.some.inj h23_
        exact con_pc (op := true) (I := [17, 50, 59, 71]) (sp := chkWindow_sp) 3000 (bF 1 (bT 1 [])) [iD r0, .tup [iD (Int.ofNat 0)], .tup [iD (Int.ofNat 0)], iD r1] [c_bn b3_, c_le 2, c_b b22_] [k_c f4_, k_l k10_ (bT 1 []) [.tup [iD (Int.ofNat 0)], .tup [iD (Int.ofNat 0)], iD r1] [.tup [iD (Int.ofNat 0)], iD r1], k_l k17_ (bT 1 []) [.tup [iD (Int.ofNat 0)], iD r1] [iD r1], k_c f20_] (by kernel_rfl)
      have h23_ := (if_neg b22_).symm.trans h21_
      have b24_ : r1 = (0 : Int) := by first | exact b22_ | simpa using b22_
      obtain ⟨r2, f25_, h26_⟩ := pullD_elim h23_
      replace f25_ := m_52_ok f25_
      obtain ⟨r3, f27_, h28_⟩ := pullD_elim h26_
      replace f27_ := m_52_ok f27_
      by_cases b29_ : IntKind.i64.wrap (r2 + r3) ≠ (0 : Int)
      · have h30_ := (if_pos b29_).symm.trans h28_
        obtain rfl := Option.some.inj h30_
        exact con_pc (op := true) (I := [17, 50, 59, 71]) (sp := chkWindow_sp) 3000 (bF 2 (bT 1 [])) [iD r0, .tup [iD (Int.ofNat 0)], .tup [iD (Int.ofNat 0)], iD r1, iD r2, iD r3] [c_bn b3_, c_le 2, c_bn b24_, c_b b29_] [k_c f4_, k_l k10_ (bF 1 (bT 1 [])) [.tup [iD (Int.ofNat 0)], .tup [iD (Int.ofNat 0)], iD r1, iD r2, iD r3] [.tup [iD (Int.ofNat 0)], iD r1, iD r2, iD r3], k_l k17_ (bF 1 (bT 1 [])) [.tup [iD (Int.ofNat 0)], iD r1, iD r2, iD r3] [iD r1, iD r2, iD r3], k_c f20_, k_c f25_, k_c f27_] (by kernel_rfl)
      have h30_ := (if_neg b29_).symm.trans h28_
      have b31_ : IntKind.i64.wrap (r2 + r3) = (0 : Int) := by first | exact b29_ | simpa using b29_
      obtain rfl := Option.some.inj h30_
      exact con_pc (op := true) (I := [17, 50, 59, 71]) (sp := chkWindow_sp) 3000 (bF 3 []) [iD r0, .tup [iD (Int.ofNat 0)], .tup [iD (Int.ofNat 0)], iD r1, iD r2, iD r3] [c_bn b3_, c_le 2, c_bn b24_, c_bn b31_] [k_c f4_, k_l k10_ (bF 2 []) [.tup [iD (Int.ofNat 0)], .tup [iD (Int.ofNat 0)], iD r1, iD r2, iD r3] [.tup [iD (Int.ofNat 0)], iD r1, iD r2, iD r3], k_l k17_ (bF 2 []) [.tup [iD (Int.ofNat 0)], iD r1, iD r2, iD r3] [iD r1, iD r2, iD r3], k_c f20_, k_c f25_, k_c f27_] (by kernel_rfl)
    have h32_ := (if_neg j15_).symm.trans h14_
    clear h14_
    by_cases j33_ : j = 1
    · have h36_ := (if_pos j33_).symm.trans h32_
      clear h32_
      subst j33_
      obtain ⟨l4, e34_, h37_⟩ := pullD_elim h36_
      clear h36_
      obtain rfl := tup_inj e34_
      have k35_ := chkWindow_L71_2_1_in1 ka ca kb cb e13_
      obtain ⟨r5, f38_, h39_⟩ := pullD_elim h37_
      replace f38_ := m_47_ok f38_
      by_cases b40_ : r5 ≠ (0 : Int)
      · have h41_ := (if_pos b40_).symm.trans h39_
        obtain rfl := Option.some.inj h41_
        exact con_pc (op := true) (I := [17, 50, 59, 71]) (sp := chkWindow_sp) 3000 (bF 1 (bT 1 [])) [iD r0, .tup [iD (Int.ofNat 0)], .tup [iD (Int.ofNat 1), iD l4], iD r5] [c_bn b3_, c_le 2, c_b b40_] [k_c f4_, k_l k10_ (bT 1 []) [.tup [iD (Int.ofNat 0)], .tup [iD (Int.ofNat 1), iD l4], iD r5] [.tup [iD (Int.ofNat 1), iD l4], iD r5], k_l k35_ (bT 1 []) [.tup [iD (Int.ofNat 1), iD l4], iD r5] [iD r5], k_c f38_] (by kernel_rfl)
      have h41_ := (if_neg b40_).symm.trans h39_
      have b42_ : r5 = (0 : Int) := by first | exact b40_ | simpa using b40_
      obtain ⟨r6, f43_, h44_⟩ := pullD_elim h41_
      replace f43_ := m_52_ok f43_
      obtain ⟨r7, f45_, h46_⟩ := pullD_elim h44_
      replace f45_ := m_52_ok f45_
      by_cases b47_ : IntKind.i64.wrap (r6 + r7) ≠ (0 : Int)
      · have h48_ := (if_pos b47_).symm.trans h46_
        obtain rfl := Option.some.inj h48_
        exact con_pc (op := true) (I := [17, 50, 59, 71]) (sp := chkWindow_sp) 3000 (bF 2 (bT 1 [])) [iD r0, .tup [iD (Int.ofNat 0)], .tup [iD (Int.ofNat 1), iD l4], iD r5, iD r6, iD r7] [c_bn b3_, c_le 2, c_bn b42_, c_b b47_] [k_c f4_, k_l k10_ (bF 1 (bT 1 [])) [.tup [iD (Int.ofNat 0)], .tup [iD (Int.ofNat 1), iD l4], iD r5, iD r6, iD r7] [.tup [iD (Int.ofNat 1), iD l4], iD r5, iD r6, iD r7], k_l k35_ (bF 1 (bT 1 [])) [.tup [iD (Int.ofNat 1), iD l4], iD r5, iD r6, iD r7] [iD r5, iD r6, iD r7], k_c f38_, k_c f43_, k_c f45_] (by kernel_rfl)
      have h48_ := (if_neg b47_).symm.trans h46_
      have b49_ : IntKind.i64.wrap (r6 + r7) = (0 : Int) := by first | exact b47_ | simpa using b47_
      obtain rfl := Option.some.inj h48_
      exact con_pc (op := true) (I := [17, 50, 59, 71]) (sp := chkWindow_sp) 3000 (bF 3 []) [iD r0, .tup [iD (Int.ofNat 0)], .tup [iD (Int.ofNat 1), iD l4], iD r5, iD r6, iD r7] [c_bn b3_, c_le 2, c_bn b42_, c_bn b49_] [k_c f4_, k_l k10_ (bF 2 []) [.tup [iD (Int.ofNat 0)], .tup [iD (Int.ofNat 1), iD l4], iD r5, iD r6, iD r7] [.tup [iD (Int.ofNat 1), iD l4], iD r5, iD r6, iD r7], k_l k35_ (bF 2 []) [.tup [iD (Int.ofNat 1), iD l4], iD r5, iD r6, iD r7] [iD r5, iD r6, iD r7], k_c f38_, k_c f43_, k_c f45_] (by kernel_rfl)
    have h50_ := (if_neg j33_).symm.trans h32_
    clear h32_
    cases h50_
  have h51_ := (if_neg j8_).symm.trans h7_
  clear h7_
  by_cases j52_ : j = 1
  · have h55_ := (if_pos j52_).symm.trans h51_
    clear h51_
    subst j52_
    obtain ⟨l8, e53_, h56_⟩ := pullD_elim h55_
    clear h55_
    obtain rfl := tup_inj e53_
    have k54_ := chkWindow_L71_2_in1 ka ca kb cb e6_
    obtain ⟨j, ds, e57_, h58_⟩ := bindL_elim h56_
    by_cases j59_ : j = 0
    · have h62_ := (if_pos j59_).symm.trans h58_
      clear h58_
      subst j59_
      obtain ⟨⟨⟩, e60_, h63_⟩ := pullD_elim h62_
      clear h62_
      obtain rfl := tup_inj e60_
      have k61_ := chkWindow_L71_2_1_in0 ka ca kb cb e57_
      obtain ⟨r9, f64_, h65_⟩ := pullD_elim h63_
      replace f64_ := m_47_ok f64_
      by_cases b66_ : r9 ≠ (0 : Int)
      · have h67_ := (if_pos b66_).symm.trans h65_
        obtain rfl := Option.some.inj h67_
        exact con_pc (op := true) (I := [17, 50, 59, 71]) (sp := chkWindow_sp) 3000 (bF 1 (bT 1 [])) [iD r0, .tup [iD (Int.ofNat 1), iD l8], .tup [iD (Int.ofNat 0)], iD r9] [c_bn b3_, c_le 2, c_b b66_] [k_c f4_, k_l k54_ (bT 1 []) [.tup [iD (Int.ofNat 1), iD l8], .tup [iD (Int.ofNat 0)], iD r9] [.tup [iD (Int.ofNat 0)], iD r9], k_l k61_ (bT 1 []) [.tup [iD (Int.ofNat 0)], iD r9] [iD r9], k_c f64_] (by kernel_rfl)
      have h67_ := (if_neg b66_).symm.trans h65_
      have b68_ : r9 = (0 : Int) := by first | exact b66_ | simpa using b66_
      obtain ⟨r10, f69_, h70_⟩ := pullD_elim h67_
      replace f69_ := m_52_ok f69_
      obtain ⟨r11, f71_, h72_⟩ := pullD_elim h70_
      replace f71_ := m_52_ok f71_
      by_cases b73_ : IntKind.i64.wrap (r10 + r11) ≠ (0 : Int)
      · have h74_ := (if_pos b73_).symm.trans h72_
        obtain rfl := Option.some.inj h74_
        exact con_pc (op := true) (I := [17, 50, 59, 71]) (sp := chkWindow_sp) 3000 (bF 2 (bT 1 [])) [iD r0, .tup [iD (Int.ofNat 1), iD l8], .tup [iD (Int.ofNat 0)], iD r9, iD r10, iD r11] [c_bn b3_, c_le 2, c_bn b68_, c_b b73_] [k_c f4_, k_l k54_ (bF 1 (bT 1 [])) [.tup [iD (Int.ofNat 1), iD l8], .tup [iD (Int.ofNat 0)], iD r9, iD r10, iD r11] [.tup [iD (Int.ofNat 0)], iD r9, iD r10, iD r11], k_l k61_ (bF 1 (bT 1 [])) [.tup [iD (Int.ofNat 0)], iD r9, iD r10, iD r11] [iD r9, iD r10, iD r11], k_c f64_, k_c f69_, k_c f71_] (by kernel_rfl)
      have h74_ := (if_neg b73_).symm.trans h72_
      have b75_ : IntKind.i64.wrap (r10 + r11) = (0 : Int) := by first | exact b73_ | simpa using b73_
      obtain rfl := Option.some.inj h74_
      exact con_pc (op := true) (I := [17, 50, 59, 71]) (sp := chkWindow_sp) 3000 (bF 3 []) [iD r0, .tup [iD (Int.ofNat 1), iD l8], .tup [iD (Int.ofNat 0)], iD r9, iD r10, iD r11] [c_bn b3_, c_le 2, c_bn b68_, c_bn b75_] [k_c f4_, k_l k54_ (bF 2 []) [.tup [iD (Int.ofNat 1), iD l8], .tup [iD (Int.ofNat 0)], iD r9, iD r10, iD r11] [.tup [iD (Int.ofNat 0)], iD r9, iD r10, iD r11], k_l k61_ (bF 2 []) [.tup [iD (Int.ofNat 0)], iD r9, iD r10, iD r11] [iD r9, iD r10, iD r11], k_c f64_, k_c f69_, k_c f71_] (by kernel_rfl)
    have h76_ := (if_neg j59_).symm.trans h58_
    clear h58_
    by_cases j77_ : j = 1
    · have h80_ := (if_pos j77_).symm.trans h76_
      clear h76_
      subst j77_
      obtain ⟨l12, e78_, h81_⟩ := pullD_elim h80_
      clear h80_
      obtain rfl := tup_inj e78_
      have k79_ := chkWindow_L71_2_1_in1 ka ca kb cb e57_
      obtain ⟨r13, f82_, h83_⟩ := pullD_elim h81_
      replace f82_ := m_47_ok f82_
      by_cases b84_ : r13 ≠ (0 : Int)
      · have h85_ := (if_pos b84_).symm.trans h83_
        obtain rfl := Option.some.inj h85_
        exact con_pc (op := true) (I := [17, 50, 59, 71]) (sp := chkWindow_sp) 3000 (bF 1 (bT 1 [])) [iD r0, .tup [iD (Int.ofNat 1), iD l8], .tup [iD (Int.ofNat 1), iD l12], iD r13] [c_bn b3_, c_le 2, c_b b84_] [k_c f4_, k_l k54_ (bT 1 []) [.tup [iD (Int.ofNat 1), iD l8], .tup [iD (Int.ofNat 1), iD l12], iD r13] [.tup [iD (Int.ofNat 1), iD l12], iD r13], k_l k79_ (bT 1 []) [.tup [iD (Int.ofNat 1), iD l12], iD r13] [iD r13], k_c f82_] (by kernel_rfl)
      have h85_ := (if_neg b84_).symm.trans h83_
      have b86_ : r13 = (0 : Int) := by first | exact b84_ | simpa using b84_
      obtain ⟨r14, f87_, h88_⟩ := pullD_elim h85_
      replace f87_ := m_52_ok f87_
      obtain ⟨r15, f89_, h90_⟩ := pullD_elim h88_
      replace f89_ := m_52_ok f89_
      by_cases b91_ : IntKind.i64.wrap (r14 + r15) ≠ (0 : Int)
      · have h92_ := (if_pos b91_).symm.trans h90_
        obtain rfl := Option.some.inj h92_
        exact con_pc (op := true) (I := [17, 50, 59, 71]) (sp := chkWindow_sp) 3000 (bF 2 (bT 1 [])) [iD r0, .tup [iD (Int.ofNat 1), iD l8], .tup [iD (Int.ofNat 1), iD l12], iD r13, iD r14, iD r15] [c_bn b3_, c_le 2, c_bn b86_, c_b b91_] [k_c f4_, k_l k54_ (bF 1 (bT 1 [])) [.tup [iD (Int.ofNat 1), iD l8], .tup [iD (Int.ofNat 1), iD l12], iD r13, iD r14, iD r15] [.tup [iD (Int.ofNat 1), iD l12], iD r13, iD r14, iD r15], k_l k79_ (bF 1 (bT 1 [])) [.tup [iD (Int.ofNat 1), iD l12], iD r13, iD r14, iD r15] [iD r13, iD r14, iD r15], k_c f82_, k_c f87_, k_c f89_] (by kernel_rfl)
      have h92_ := (if_neg b91_).symm.trans h90_
      have b93_ : IntKind.i64.wrap (r14 + r15) = (0 : Int) := by first | exact b91_ | simpa using b91_
      obtain rfl := Option.some.inj h92_
      exact con_pc (op := true) (I := [17, 50, 59, 71]) (sp := chkWindow_sp) 3000 (bF 3 []) [iD r0, .tup [iD (Int.ofNat 1), iD l8], .tup [iD (Int.ofNat 1), iD l12], iD r13, iD r14, iD r15] [c_bn b3_, c_le 2, c_bn b86_, c_bn b93_] [k_c f4_, k_l k54_ (bF 2 []) [.tup [iD (Int.ofNat 1), iD l8], .tup [iD (Int.ofNat 1), iD l12], iD r13, iD r14, iD r15] [.tup [iD (Int.ofNat 1), iD l12], iD r13, iD r14, iD r15], k_l k79_ (bF 2 []) [.tup [iD (Int.ofNat 1), iD l12], iD r13, iD r14, iD r15] [iD r13, iD r14, iD r15], k_c f82_, k_c f87_, k_c f89_] (by kernel_rfl)
    have h94_ := (if_neg j77_).symm.trans h76_
    clear h76_
    cases h94_
  have h95_ := (if_neg j52_).symm.trans h51_
  clear h51_
  cases h95_
def m_17 (ds : List D) : Option D := pullD (α := Nat × (List D) × Nat × (List D)) (some (.tup ds)) (fun d => ((D.ln (D.at (D.at d 0) 0)), (D.lc (D.at (D.at d 0) 0)), (D.ln (D.at (D.at d 0) 1)), (D.lc (D.at (D.at d 0) 1)))) (fun (ka, ca, kb, cb) => .tup [.agg [.list ka ca, .list kb cb]]) fun (ka, ca, kb, cb) => chkWindow_M ka ca kb cb
theorem m_17_ok {ds : List D} {r : D} (h : m_17 ds = some r) : Con 17 ds r := by
  unfold m_17 at h
  obtain ⟨⟨ka, ca, kb, cb⟩, e0, h0⟩ := pullD_elim h
  obtain rfl := tup_inj e0
  exact chkWindow_M_ok ka ca kb cb h0
theorem m_17_eq (ka : Nat) (ca : List D) (kb : Nat) (cb : List D) : m_17 [.agg [.list ka ca, .list kb cb]] = chkWindow_M ka ca kb cb := pullD_some (ka, ca, kb, cb) rfl rfl
def chkdWindow_sp : List LSpec := []
def chkdWindow_M (ka : Nat) (ca : List D) (kb : Nat) (cb : List D) : Option D := pullD (α := Int) (m_17 [.agg [.list ka ca, .list kb cb]]) (fun d => ((D.vi d))) (fun r0 => iD r0) fun r0 => ((if r0 ≠ (0 : Int) then some (.tup [.agg [.list 0 [], .list 0 []], iD r0]) else some (.tup [.agg [.list ka ca, .list kb cb], iD (0 : Int)])))
theorem chkdWindow_M_ok (ka : Nat) (ca : List D) (kb : Nat) (cb : List D) {r : D} (h : chkdWindow_M ka ca kb cb = some r) : Con 40 [.agg [.list ka ca, .list kb cb]] r := by
  unfold chkdWindow_M at h
  obtain ⟨r0, f1_, h2_⟩ := pullD_elim h
  replace f1_ := m_17_ok f1_
  by_cases b3_ : r0 ≠ (0 : Int)
  · have h4_ := (if_pos b3_).symm.trans h2_
    obtain rfl := Option.some.inj h4_
    exact con_pc (op := true) (I := [40]) (sp := chkdWindow_sp) 3000 (bT 1 []) [iD r0] [c_b b3_] [k_c f1_] (by kernel_rfl)
  have h4_ := (if_neg b3_).symm.trans h2_
  have b5_ : r0 = (0 : Int) := by first | exact b3_ | simpa using b3_
  obtain rfl := Option.some.inj h4_
  exact con_pc (op := true) (I := [40]) (sp := chkdWindow_sp) 3000 (bF 1 []) [iD r0] [c_bn b5_] [k_c f1_] (by kernel_rfl)
def m_40 (ds : List D) : Option D := pullD (α := Nat × (List D) × Nat × (List D)) (some (.tup ds)) (fun d => ((D.ln (D.at (D.at d 0) 0)), (D.lc (D.at (D.at d 0) 0)), (D.ln (D.at (D.at d 0) 1)), (D.lc (D.at (D.at d 0) 1)))) (fun (ka, ca, kb, cb) => .tup [.agg [.list ka ca, .list kb cb]]) fun (ka, ca, kb, cb) => chkdWindow_M ka ca kb cb
theorem m_40_ok {ds : List D} {r : D} (h : m_40 ds = some r) : Con 40 ds r := by
  unfold m_40 at h
  obtain ⟨⟨ka, ca, kb, cb⟩, e0, h0⟩ := pullD_elim h
  obtain rfl := tup_inj e0
  exact chkdWindow_M_ok ka ca kb cb h0
theorem m_40_eq (ka : Nat) (ca : List D) (kb : Nat) (cb : List D) : m_40 [.agg [.list ka ca, .list kb cb]] = chkdWindow_M ka ca kb cb := pullD_some (ka, ca, kb, cb) rfl rfl
def residuals_x3_0 : LExit := ⟨some 0, [.made 3], (4 :: (5 :: (List.range' 14 13)))⟩
def residuals_sp : List LSpec := [⟨41, 3, [residuals_x3_0]⟩]
def residuals_L3_E (ka : Nat) (ca : List D) (kb : Nat) (cb : List D)  : List AV × AHeap := ([.agg [.dsl 0, .dsl 1], .ptr 2 0, .pure (.slice none 0 0), .bslx 4 0 (0 + ka) 0, .pure (.tuple #[]), .pure (.tuple #[]), .ptr 2 0, .ptr 2 0, .dsl 0, .bslx 4 0 (0 + ka) 0, .ptr 2 0, .ptr 2 1, .dsl 1, .pure (.int .i64 (kb : Int)), .pure (.int .i64 (0 : Int)), .pure (.tuple #[]), .pure (.tuple #[]), .pure (.tuple #[]), .pure (.tuple #[]), .pure (.tuple #[]), .pure (.tuple #[]), .pure (.tuple #[]), .pure (.tuple #[]), .pure (.tuple #[]), .pure (.tuple #[]), .pure (.tuple #[]), .pure (.tuple #[]), .pure (.tuple #[]), .pure (.tuple #[])], [(4, { cells := [], opn := some 1, kind := .big ca }), (2, { cells := [.dsl 0, .dsl 1], opn := none, kind := .cells }), (1, { cells := [], opn := none, kind := .deep kb cb }), (0, { cells := [], opn := none, kind := .deep ka ca })])
def residuals_L3_A : LoopAt := ⟨41, loopAt Try.prog 41 0, 5, 21, 4, noFrame⟩
theorem residuals_L3_ok : (residuals_L3_A).OK := ⟨by show 5 ≤ 21; decide, by show 4 ≤ 5; decide, by kernel_rfl, rfl⟩
def residuals_L3_gs (ka : Nat) (ca : List D) (kb : Nat) (cb : List D)  : Go.Ev.Rd → Option GS
  | .next 0 ds => ghost [.val 14, .made 3] (4 :: (5 :: (List.range' 15 12))) (residuals_L3_E ka ca kb cb).1 (residuals_L3_E ka ca kb cb).2 5 ds
  | .out 0 ds => ghost residuals_x3_0.live residuals_x3_0.junk (residuals_L3_E ka ca kb cb).1 (residuals_L3_E ka ca kb cb).2 5 ds
  | _ => none
def residuals_L3_ex : Nat → Option Nat
  | 0 => residuals_x3_0.ex
  | _ => none
def residuals_L3_ax : Go.Ev.Rd → AX
  | .next _ _ => .normal
  | .out j _ => axOf (residuals_L3_ex j)
def residuals_L3_S0 (ka : Nat) (ca : List D) (kb : Nat) (cb : List D)  (ds : List D) : Option Go.Ev.Rd := pullD (α := Int × Nat × (List D)) (some (.tup ds)) (fun d => ((D.vi (D.at d 0)), (D.ln (D.at d 1)), (D.lc (D.at d 1)))) (fun (s14, s3n, s3c) => .tup [iD s14, .list s3n s3c]) fun (s14, s3n, s3c) => ((if s14 < (kb : Int) then guardP ((0 : Int) ≤ s14 ∧ s14.toNat < kb) (pullD (α := Int) (readD cb (s14.toNat * 1) 1 false) (fun d => ((D.vi d))) (fun v0 => iD v0) fun v0 => (guardP ((0 : Int) ≤ s14 ∧ s14.toNat < 0 + ka) (pullD (α := Int) (readD s3c (0 + s14.toNat * 1) 1 false) (fun d => ((D.vi d))) (fun v1 => iD v1) fun v1 => (guardP (0 + s14.toNat * 1 + 1 ≤ s3c.length ∧ ∀ (u : D), u ∈ [dCell (.int .i64 (IntKind.i64.wrap (v1 + v0)))] → cellD u) (some (.next 0 [iD (IntKind.i64.wrap (s14 + (1 : Int))), .list (0 + ka) (List.append (List.take (0 + s14.toNat * 1) s3c ++ [dCell (.int .i64 (IntKind.i64.wrap (v1 + v0)))]) (List.drop (0 + s14.toNat * 1 + [dCell (.int .i64 (IntKind.i64.wrap (v1 + v0)))].length) s3c))])))))) else some (.out 0 [.list (0 + ka) s3c])))
def residuals_L3_S (ka : Nat) (ca : List D) (kb : Nat) (cb : List D)  : Go.Ev.Rd → Option Go.Ev.Rd
  | .next 0 ds => residuals_L3_S0 ka ca kb cb ds
  | _ => none
theorem residuals_L3_S_ok (ka : Nat) (ca : List D) (kb : Nat) (cb : List D)  : ∀ s_ t_, residuals_L3_S ka ca kb cb s_ = some t_ → Step (ctx [41, 57] residuals_sp) Tabs residuals_L3_A (stateOf (residuals_L3_gs ka ca kb cb s_)) (stateOf (residuals_L3_gs ka ca kb cb t_)) (residuals_L3_ax t_) ∧ EndOK residuals_L3_A.nx residuals_L3_A.low (residuals_L3_gs ka ca kb cb) t_
  | .next 0 ds, t_, h => by
    have h_ : residuals_L3_S0 ka ca kb cb ds = some t_ := h
    clear h
    unfold residuals_L3_S0 at h_
    obtain ⟨⟨s14, s3n, s3c⟩, e0, h0⟩ := pullD_elim h_
    clear h_
    obtain rfl := tup_inj e0
    by_cases b1_ : s14 < (kb : Int)
    · have h2_ := (if_pos b1_).symm.trans h0
      obtain ⟨f3_, h4_⟩ := guardP_elim h2_
      obtain ⟨v0, f5_, h6_⟩ := pullD_elim h4_
      replace f5_ := readD_elim f5_
      obtain ⟨f7_, h8_⟩ := guardP_elim h6_
      obtain ⟨v1, f9_, h10_⟩ := pullD_elim h8_
      replace f9_ := readD_elim f9_
      obtain ⟨f11_, h12_⟩ := guardP_elim h10_
      obtain rfl := Option.some.inj h12_
      exact ⟨step_pc 3000 (bT 1 []) [iD v0, iD v1] [c_d b1_, c_f f3_, c_f f5_, c_f f7_, c_f f9_, c_f f7_, c_f f11_] [] _ rfl (by kernel_rfl) (by kernel_rfl) (by kernel_rfl) (by kernel_rfl) (by kernel_rfl) (by kernel_rfl), trivial⟩
    have h2_ := (if_neg b1_).symm.trans h0
    obtain rfl := Option.some.inj h2_
    exact ⟨step_pc 3000 (bF 1 []) [] [c_n b1_] [] _ rfl (by kernel_rfl) (by kernel_rfl) (by kernel_rfl) (by kernel_rfl) (by kernel_rfl) (by kernel_rfl), by kernel_rfl, by kernel_rfl⟩
  | .next (_ + 1) _, _, h => by cases h
  | .out _ _, _, h => by cases h
theorem residuals_L3_go (ka : Nat) (ca : List D) (kb : Nat) (cb : List D)  {q : Nat} {ds : List D} {j : Nat} {es : List D} (h : runR (residuals_L3_S ka ca kb cb) (.next q ds) = some (.out j es)) : Runs (ctx [41, 57] residuals_sp) Tabs residuals_L3_A (stateOf (residuals_L3_gs ka ca kb cb (.next q ds))) (stateOf (residuals_L3_gs ka ca kb cb (.out j es))) (residuals_L3_ax (.out j es)) ∧ (nxtOf (residuals_L3_gs ka ca kb cb (.out j es)), lowGS (residuals_L3_gs ka ca kb cb (.out j es))) = (residuals_L3_A.nx, residuals_L3_A.low) :=
  runs_of' (good true _ _) residuals_L3_ok (ax := residuals_L3_ax) (fun _ _ => rfl) (fun _ _ => axOf_end _) (residuals_L3_S_ok ka ca kb cb) h
theorem residuals_L3_in0 (ka : Nat) (ca : List D) (kb : Nat) (cb : List D)  {es : List D} (h : runR (residuals_L3_S ka ca kb cb) (.next 0 [iD ((0 : Int)), .list ((0 + ka)) (ca)]) = some (.out 0 es)) : LoopC (loopAt Try.prog 41 0) (residuals_L3_E ka ca kb cb) 5 noFrame residuals_x3_0 es :=
  have r := residuals_L3_go ka ca kb cb h
  loopin_as rfl (loop_in (l := residuals_L3_A) (E := (residuals_L3_E ka ca kb cb)) (S := stateOf (residuals_L3_gs ka ca kb cb (.next 0 [iD ((0 : Int)), .list ((0 + ka)) (ca)]))) (ns := nsOf (residuals_L3_gs ka ca kb cb (.next 0 [iD ((0 : Int)), .list ((0 + ka)) (ca)]))) residuals_L3_ok r.1 r.2 (by kernel_rfl) (by kernel_rfl) (by kernel_rfl) (by kernel_rfl))
def residuals_M (ka : Nat) (ca : List D) (kb : Nat) (cb : List D) : Option D := guardP (0 < ka) (guardP ((∀ (u : D), u ∈ ca → cellD u) ∧ 0 ≤ 0 ∧ (0 + ka) * 8 ≤ 140737488355328 ∧ 0 + ka ≤ 4611686018427387904) (guardP (ca.length = ka * 1) (bindL (runR (residuals_L3_S ka ca kb cb) (.next 0 [iD ((0 : Int)), .list ((0 + ka)) (ca)])) fun j ds => (if j = 0 then pullD (α := Nat × (List D)) (some (.tup ds)) (fun d => ((D.ln (D.at d 0)), (D.lc (D.at d 0)))) (fun (k0, c1) => .tup [.list k0 c1]) fun (k0, c1) => (guardP ((0 + (0 + ka)) * 1 ≤ c1.length ∧ 0 < 1) (pullD (α := Nat × (List D)) (m_66 [.list (0 + ka) c1]) (fun d => ((D.ln d), (D.lc d))) (fun (k2, c3) => .list k2 c3) fun (k2, c3) => (some (.list k2 c3)))) else none))))
theorem residuals_M_ok (ka : Nat) (ca : List D) (kb : Nat) (cb : List D) {r : D} (h : residuals_M ka ca kb cb = some r) : Con 41 [.agg [.list ka ca, .list kb cb]] r := by
  unfold residuals_M at h
  obtain ⟨f1_, h2_⟩ := guardP_elim h
  obtain ⟨f3_, h4_⟩ := guardP_elim h2_
  obtain ⟨f5_, h6_⟩ := guardP_elim h4_
  obtain ⟨j, ds, e7_, h8_⟩ := bindL_elim h6_
  by_cases j9_ : j = 0
  · have h12_ := (if_pos j9_).symm.trans h8_
    clear h8_
    subst j9_
    obtain ⟨⟨k0, c1⟩, e10_, h13_⟩ := pullD_elim h12_
    clear h12_
    obtain rfl := tup_inj e10_
    have k11_ := residuals_L3_in0 ka ca kb cb e7_
    obtain ⟨f14_, h15_⟩ := guardP_elim h13_
    obtain ⟨⟨k2, c3⟩, f16_, h17_⟩ := pullD_elim h15_
    replace f16_ := m_66_ok f16_
    obtain rfl := Option.some.inj h17_
    exact con_pc (op := true) (I := [41, 57]) (sp := residuals_sp) 3000 (bF 1 []) [.tup [iD (Int.ofNat 0), .list k0 c1], .list k2 c3] [c_f f1_, c_F, c_f f3_, c_f f5_, c_f f14_] [k_l k11_ [] [.tup [iD (Int.ofNat 0), .list k0 c1], .list k2 c3] [.list k2 c3], k_c f16_] (by kernel_rfl)
  have h18_ := (if_neg j9_).symm.trans h8_
  clear h8_
  cases h18_
def m_41 (ds : List D) : Option D := pullD (α := Nat × (List D) × Nat × (List D)) (some (.tup ds)) (fun d => ((D.ln (D.at (D.at d 0) 0)), (D.lc (D.at (D.at d 0) 0)), (D.ln (D.at (D.at d 0) 1)), (D.lc (D.at (D.at d 0) 1)))) (fun (ka, ca, kb, cb) => .tup [.agg [.list ka ca, .list kb cb]]) fun (ka, ca, kb, cb) => residuals_M ka ca kb cb
theorem m_41_ok {ds : List D} {r : D} (h : m_41 ds = some r) : Con 41 ds r := by
  unfold m_41 at h
  obtain ⟨⟨ka, ca, kb, cb⟩, e0, h0⟩ := pullD_elim h
  obtain rfl := tup_inj e0
  exact residuals_M_ok ka ca kb cb h0
theorem m_41_eq (ka : Nat) (ca : List D) (kb : Nat) (cb : List D) : m_41 [.agg [.list ka ca, .list kb cb]] = residuals_M ka ca kb cb := pullD_some (ka, ca, kb, cb) rfl rfl
def size_sp : List LSpec := []
def size_M (n : Int) : Option D := some (iD (if IntKind.i64.wrap ((0 : Int) - n) > n then IntKind.i64.wrap ((0 : Int) - n) else n))
theorem size_M_ok (n : Int) {r : D} (h : size_M n = some r) : Con 55 [iD n] r := by
  unfold size_M at h
  obtain rfl := Option.some.inj h
  exact con_pc (op := true) (I := [55]) (sp := size_sp) 3000 [] [] [] [] (by kernel_rfl)
def m_55 (ds : List D) : Option D := pullD (α := Int) (some (.tup ds)) (fun d => ((D.vi (D.at d 0)))) (fun n => .tup [iD n]) fun n => size_M n
theorem m_55_ok {ds : List D} {r : D} (h : m_55 ds = some r) : Con 55 ds r := by
  unfold m_55 at h
  obtain ⟨n, e0, h0⟩ := pullD_elim h
  obtain rfl := tup_inj e0
  exact size_M_ok n h0
theorem m_55_eq (n : Int) : m_55 [iD n] = size_M n := pullD_some n rfl rfl
def within_sp : List LSpec := []
def within_M (n lo hi : Int) : Option D := (if lo ≤ n then some (.one (.bool (decide (n ≤ hi)))) else some (.one (.bool false)))
theorem within_M_ok (n lo hi : Int) {r : D} (h : within_M n lo hi = some r) : Con 25 [iD n, iD lo, iD hi] r := by
  unfold within_M at h
  by_cases b1_ : lo ≤ n
  · have h2_ := (if_pos b1_).symm.trans h
    obtain rfl := Option.some.inj h2_
    exact con_pc (op := true) (I := [25]) (sp := within_sp) 3000 (bT 4 []) [] [c_d b1_, c_d b1_, c_d b1_, c_d b1_] [] (by kernel_rfl)
  have h2_ := (if_neg b1_).symm.trans h
  obtain rfl := Option.some.inj h2_
  exact con_pc (op := true) (I := [25]) (sp := within_sp) 3000 (bF 4 []) [] [c_n b1_, c_n b1_, c_n b1_, c_n b1_] [] (by kernel_rfl)
def m_25 (ds : List D) : Option D := pullD (α := Int × Int × Int) (some (.tup ds)) (fun d => ((D.vi (D.at d 0)), (D.vi (D.at d 1)), (D.vi (D.at d 2)))) (fun (n, lo, hi) => .tup [iD n, iD lo, iD hi]) fun (n, lo, hi) => within_M n lo hi
theorem m_25_ok {ds : List D} {r : D} (h : m_25 ds = some r) : Con 25 ds r := by
  unfold m_25 at h
  obtain ⟨⟨n, lo, hi⟩, e0, h0⟩ := pullD_elim h
  obtain rfl := tup_inj e0
  exact within_M_ok n lo hi h0
theorem m_25_eq (n lo hi : Int) : m_25 [iD n, iD lo, iD hi] = within_M n lo hi := pullD_some (n, lo, hi) rfl rfl
def winErr_x7_0 : LExit := ⟨some 0, [.val 3], (2 :: (4 :: (List.range' 23 21)))⟩
def winErr_x7_1 : LExit := ⟨none, [.val 2], (3 :: (4 :: (List.range' 23 21)))⟩
def winErr_x13_0 : LExit := ⟨some 2, [.val 3], (2 :: (5 :: (List.range' 44 21)))⟩
def winErr_x13_1 : LExit := ⟨none, [.val 2], (3 :: (5 :: (List.range' 44 21)))⟩
def winErr_sp : List LSpec := [⟨16, 7, [winErr_x7_0, winErr_x7_1]⟩, ⟨16, 13, [winErr_x13_0, winErr_x13_1]⟩]
def winErr_L13_E (ka : Nat) (ca : List D) (kb : Nat) (cb : List D) (x0 : Int) : List AV × AHeap := ([.agg [.dsl 0, .dsl 1], .ptr 2 0, .any 3, .pure (.int .i64 x0), .any 4, .pure (.int .i64 (0 : Int)), .ptr 2 0, .dsl 0, .pure (.int .i64 (ka : Int)), .pure (.bool ((ka : Int) == (0 : Int))), .pure (.bool ((ka : Int) == (0 : Int))), .ptr 2 1, .dsl 1, .pure (.int .i64 (kb : Int)), .ptr 2 0, .dsl 0, .pure (.int .i64 (ka : Int)), .pure (.bool ((kb : Int) != (ka : Int))), .pure (.bool ((kb : Int) != (ka : Int))), .ptr 2 0, .dsl 0, .pure (.int .i64 (ka : Int)), .pure (.bool (decide ((ka : Int) > (15 : Int)))), .any 5, .any 6, .any 7, .any 8, .any 9, .any 10, .any 11, .any 12, .any 13, .any 14, .any 15, .any 16, .any 17, .any 18, .any 19, .any 20, .any 21, .any 22, .any 23, .any 24, .any 25, .pure (.tuple #[]), .pure (.tuple #[]), .pure (.tuple #[]), .pure (.tuple #[]), .pure (.tuple #[]), .pure (.tuple #[]), .pure (.tuple #[]), .pure (.tuple #[]), .pure (.tuple #[]), .pure (.tuple #[]), .pure (.tuple #[]), .pure (.tuple #[]), .pure (.tuple #[]), .pure (.tuple #[]), .pure (.tuple #[]), .pure (.tuple #[]), .pure (.tuple #[]), .pure (.tuple #[]), .pure (.tuple #[]), .pure (.tuple #[]), .pure (.tuple #[]), .pure (.tuple #[]), .pure (.tuple #[])], [(2, { cells := [.dsl 0, .dsl 1], opn := none, kind := .cells }), (1, { cells := [], opn := none, kind := .deep kb cb }), (0, { cells := [], opn := none, kind := .deep ka ca })])
def winErr_L13_A : LoopAt := ⟨16, loopAt Try.prog 16 1, 27, 51, 27, noFrame⟩
theorem winErr_L13_ok : (winErr_L13_A).OK := ⟨by show 27 ≤ 51; decide, by show 27 ≤ 27; decide, by kernel_rfl, rfl⟩
def winErr_L13_gs (ka : Nat) (ca : List D) (kb : Nat) (cb : List D) (x0 : Int) : Go.Ev.Rd → Option GS
  | .next 0 ds => ghost [.val 3, .val 5] (2 :: (List.range' 44 21)) (winErr_L13_E ka ca kb cb x0).1 (winErr_L13_E ka ca kb cb x0).2 27 ds
  | .out 0 ds => ghost winErr_x13_0.live winErr_x13_0.junk (winErr_L13_E ka ca kb cb x0).1 (winErr_L13_E ka ca kb cb x0).2 27 ds
  | .out 1 ds => ghost winErr_x13_1.live winErr_x13_1.junk (winErr_L13_E ka ca kb cb x0).1 (winErr_L13_E ka ca kb cb x0).2 27 ds
  | _ => none
def winErr_L13_ex : Nat → Option Nat
  | 0 => winErr_x13_0.ex
  | 1 => winErr_x13_1.ex
  | _ => none
def winErr_L13_ax : Go.Ev.Rd → AX
  | .next _ _ => .normal
  | .out j _ => axOf (winErr_L13_ex j)
def winErr_L13_S0 (ka : Nat) (ca : List D) (kb : Nat) (cb : List D) (x0 : Int) (ds : List D) : Option Go.Ev.Rd := pullD (α := Int × Int) (some (.tup ds)) (fun d => ((D.vi (D.at d 0)), (D.vi (D.at d 1)))) (fun (s3, s5) => .tup [iD s3, iD s5]) fun (s3, s5) => ((if s5 < (kb : Int) then guardP ((0 : Int) ≤ s5 ∧ s5.toNat < kb) (pullD (α := Int) (readD cb (s5.toNat * 1) 1 false) (fun d => ((D.vi d))) (fun v0 => iD v0) fun v0 => (pullD (α := Bool) (m_25 [iD v0, iD (-100 : Int), iD (100 : Int)]) (fun d => ((D.vb d))) (fun r1 => .one (.bool r1)) fun r1 => ((if r1 = false then some (.out 1 [iD (2 : Int)]) else pullD (α := Int) (readD cb (s5.toNat * 1) 1 false) (fun d => ((D.vi d))) (fun v2 => iD v2) fun v2 => (some (.next 0 [iD (IntKind.i64.wrap (s3 + v2)), iD (IntKind.i64.wrap (s5 + (1 : Int)))])))))) else some (.out 0 [iD s3])))
def winErr_L13_S (ka : Nat) (ca : List D) (kb : Nat) (cb : List D) (x0 : Int) : Go.Ev.Rd → Option Go.Ev.Rd
  | .next 0 ds => winErr_L13_S0 ka ca kb cb x0 ds
  | _ => none
theorem winErr_L13_S_ok (ka : Nat) (ca : List D) (kb : Nat) (cb : List D) (x0 : Int) : ∀ s_ t_, winErr_L13_S ka ca kb cb x0 s_ = some t_ → Step (ctx [16] winErr_sp) Tabs winErr_L13_A (stateOf (winErr_L13_gs ka ca kb cb x0 s_)) (stateOf (winErr_L13_gs ka ca kb cb x0 t_)) (winErr_L13_ax t_) ∧ EndOK winErr_L13_A.nx winErr_L13_A.low (winErr_L13_gs ka ca kb cb x0) t_
  | .next 0 ds, t_, h => by
    have h_ : winErr_L13_S0 ka ca kb cb x0 ds = some t_ := h
    clear h
    unfold winErr_L13_S0 at h_
    obtain ⟨⟨s3, s5⟩, e0, h0⟩ := pullD_elim h_
    clear h_
    obtain rfl := tup_inj e0
    by_cases b1_ : s5 < (kb : Int)
    · have h2_ := (if_pos b1_).symm.trans h0
      obtain ⟨f3_, h4_⟩ := guardP_elim h2_
      obtain ⟨v0, f5_, h6_⟩ := pullD_elim h4_
      replace f5_ := readD_elim f5_
      obtain ⟨r1, f7_, h8_⟩ := pullD_elim h6_
      replace f7_ := m_25_ok f7_
      by_cases b9_ : r1 = false
      · have h10_ := (if_pos b9_).symm.trans h8_
        obtain rfl := Option.some.inj h10_
        exact ⟨step_pc 3000 (bT 2 []) [iD v0, .one (.bool r1)] [c_d b1_, c_f f3_, c_f f5_, c_no b9_] [k_c f7_] _ rfl (by kernel_rfl) (by kernel_rfl) (by kernel_rfl) (by kernel_rfl) (by kernel_rfl) (by kernel_rfl), by kernel_rfl, by kernel_rfl⟩
      have h10_ := (if_neg b9_).symm.trans h8_
      have b11_ : r1 = true := by first | exact b9_ | simpa using b9_
      obtain ⟨v2, f12_, h13_⟩ := pullD_elim h10_
      replace f12_ := readD_elim f12_
      obtain rfl := Option.some.inj h13_
      exact ⟨step_pc 3000 (bT 1 (bF 1 [])) [iD v0, .one (.bool r1), iD v2] [c_d b1_, c_f f3_, c_f f5_, c_nn b11_, c_f f3_, c_f f12_] [k_c f7_] _ rfl (by kernel_rfl) (by kernel_rfl) (by kernel_rfl) (by kernel_rfl) (by kernel_rfl) (by kernel_rfl), trivial⟩
    have h2_ := (if_neg b1_).symm.trans h0
    obtain rfl := Option.some.inj h2_
    exact ⟨step_pc 3000 (bF 1 []) [] [c_n b1_] [] _ rfl (by kernel_rfl) (by kernel_rfl) (by kernel_rfl) (by kernel_rfl) (by kernel_rfl) (by kernel_rfl), by kernel_rfl, by kernel_rfl⟩
  | .next (_ + 1) _, _, h => by cases h
  | .out _ _, _, h => by cases h
theorem winErr_L13_go (ka : Nat) (ca : List D) (kb : Nat) (cb : List D) (x0 : Int) {q : Nat} {ds : List D} {j : Nat} {es : List D} (h : runR (winErr_L13_S ka ca kb cb x0) (.next q ds) = some (.out j es)) : Runs (ctx [16] winErr_sp) Tabs winErr_L13_A (stateOf (winErr_L13_gs ka ca kb cb x0 (.next q ds))) (stateOf (winErr_L13_gs ka ca kb cb x0 (.out j es))) (winErr_L13_ax (.out j es)) ∧ (nxtOf (winErr_L13_gs ka ca kb cb x0 (.out j es)), lowGS (winErr_L13_gs ka ca kb cb x0 (.out j es))) = (winErr_L13_A.nx, winErr_L13_A.low) :=
  runs_of' (good true _ _) winErr_L13_ok (ax := winErr_L13_ax) (fun _ _ => rfl) (fun _ _ => axOf_end _) (winErr_L13_S_ok ka ca kb cb x0) h
theorem winErr_L13_in0 (ka : Nat) (ca : List D) (kb : Nat) (cb : List D) (x0 : Int) {es : List D} (h : runR (winErr_L13_S ka ca kb cb x0) (.next 0 [iD x0, iD ((0 : Int))]) = some (.out 0 es)) : LoopC (loopAt Try.prog 16 1) (winErr_L13_E ka ca kb cb x0) 27 noFrame winErr_x13_0 es :=
  have r := winErr_L13_go ka ca kb cb x0 h
  loopin_as rfl (loop_in (l := winErr_L13_A) (E := (winErr_L13_E ka ca kb cb x0)) (S := stateOf (winErr_L13_gs ka ca kb cb x0 (.next 0 [iD x0, iD ((0 : Int))]))) (ns := nsOf (winErr_L13_gs ka ca kb cb x0 (.next 0 [iD x0, iD ((0 : Int))]))) winErr_L13_ok r.1 r.2 (by kernel_rfl) (by kernel_rfl) (by kernel_rfl) (by kernel_rfl))
theorem winErr_L13_in1 (ka : Nat) (ca : List D) (kb : Nat) (cb : List D) (x0 : Int) {es : List D} (h : runR (winErr_L13_S ka ca kb cb x0) (.next 0 [iD x0, iD ((0 : Int))]) = some (.out 1 es)) : LoopC (loopAt Try.prog 16 1) (winErr_L13_E ka ca kb cb x0) 27 noFrame winErr_x13_1 es :=
  have r := winErr_L13_go ka ca kb cb x0 h
  loopin_as rfl (loop_in (l := winErr_L13_A) (E := (winErr_L13_E ka ca kb cb x0)) (S := stateOf (winErr_L13_gs ka ca kb cb x0 (.next 0 [iD x0, iD ((0 : Int))]))) (ns := nsOf (winErr_L13_gs ka ca kb cb x0 (.next 0 [iD x0, iD ((0 : Int))]))) winErr_L13_ok r.1 r.2 (by kernel_rfl) (by kernel_rfl) (by kernel_rfl) (by kernel_rfl))
def winErr_L7_E (ka : Nat) (ca : List D) (kb : Nat) (cb : List D)  : List AV × AHeap := ([.agg [.dsl 0, .dsl 1], .ptr 2 0, .pure (.int .i64 (0 : Int)), .pure (.int .i64 (0 : Int)), .pure (.int .i64 (0 : Int)), .pure (.tuple #[]), .ptr 2 0, .dsl 0, .pure (.int .i64 (ka : Int)), .pure (.bool ((ka : Int) == (0 : Int))), .pure (.bool ((ka : Int) == (0 : Int))), .ptr 2 1, .dsl 1, .pure (.int .i64 (kb : Int)), .ptr 2 0, .dsl 0, .pure (.int .i64 (ka : Int)), .pure (.bool ((kb : Int) != (ka : Int))), .pure (.bool ((kb : Int) != (ka : Int))), .ptr 2 0, .dsl 0, .pure (.int .i64 (ka : Int)), .pure (.bool (decide ((ka : Int) > (15 : Int)))), .pure (.tuple #[]), .pure (.tuple #[]), .pure (.tuple #[]), .pure (.tuple #[]), .pure (.tuple #[]), .pure (.tuple #[]), .pure (.tuple #[]), .pure (.tuple #[]), .pure (.tuple #[]), .pure (.tuple #[]), .pure (.tuple #[]), .pure (.tuple #[]), .pure (.tuple #[]), .pure (.tuple #[]), .pure (.tuple #[]), .pure (.tuple #[]), .pure (.tuple #[]), .pure (.tuple #[]), .pure (.tuple #[]), .pure (.tuple #[]), .pure (.tuple #[]), .pure (.tuple #[]), .pure (.tuple #[]), .pure (.tuple #[]), .pure (.tuple #[]), .pure (.tuple #[]), .pure (.tuple #[]), .pure (.tuple #[]), .pure (.tuple #[]), .pure (.tuple #[]), .pure (.tuple #[]), .pure (.tuple #[]), .pure (.tuple #[]), .pure (.tuple #[]), .pure (.tuple #[]), .pure (.tuple #[]), .pure (.tuple #[]), .pure (.tuple #[]), .pure (.tuple #[]), .pure (.tuple #[]), .pure (.tuple #[]), .pure (.tuple #[]), .pure (.tuple #[]), .pure (.tuple #[])], [(2, { cells := [.dsl 0, .dsl 1], opn := none, kind := .cells }), (1, { cells := [], opn := none, kind := .deep kb cb }), (0, { cells := [], opn := none, kind := .deep ka ca })])
def winErr_L7_A : LoopAt := ⟨16, loopAt Try.prog 16 0, 3, 27, 3, noFrame⟩
theorem winErr_L7_ok : (winErr_L7_A).OK := ⟨by show 3 ≤ 27; decide, by show 3 ≤ 3; decide, by kernel_rfl, rfl⟩
def winErr_L7_gs (ka : Nat) (ca : List D) (kb : Nat) (cb : List D)  : Go.Ev.Rd → Option GS
  | .next 0 ds => ghost [.val 3, .val 4] (2 :: (List.range' 23 21)) (winErr_L7_E ka ca kb cb).1 (winErr_L7_E ka ca kb cb).2 3 ds
  | .out 0 ds => ghost winErr_x7_0.live winErr_x7_0.junk (winErr_L7_E ka ca kb cb).1 (winErr_L7_E ka ca kb cb).2 3 ds
  | .out 1 ds => ghost winErr_x7_1.live winErr_x7_1.junk (winErr_L7_E ka ca kb cb).1 (winErr_L7_E ka ca kb cb).2 3 ds
  | _ => none
def winErr_L7_ex : Nat → Option Nat
  | 0 => winErr_x7_0.ex
  | 1 => winErr_x7_1.ex
  | _ => none
def winErr_L7_ax : Go.Ev.Rd → AX
  | .next _ _ => .normal
  | .out j _ => axOf (winErr_L7_ex j)
def winErr_L7_S0 (ka : Nat) (ca : List D) (kb : Nat) (cb : List D)  (ds : List D) : Option Go.Ev.Rd := pullD (α := Int × Int) (some (.tup ds)) (fun d => ((D.vi (D.at d 0)), (D.vi (D.at d 1)))) (fun (s3, s4) => .tup [iD s3, iD s4]) fun (s3, s4) => ((if s4 < (ka : Int) then guardP ((0 : Int) ≤ s4 ∧ s4.toNat < ka) (pullD (α := Int) (readD ca (s4.toNat * 1) 1 false) (fun d => ((D.vi d))) (fun v0 => iD v0) fun v0 => (pullD (α := Bool) (m_25 [iD v0, iD (-100 : Int), iD (100 : Int)]) (fun d => ((D.vb d))) (fun r1 => .one (.bool r1)) fun r1 => ((if r1 = false then some (.out 1 [iD (2 : Int)]) else pullD (α := Int) (readD ca (s4.toNat * 1) 1 false) (fun d => ((D.vi d))) (fun v2 => iD v2) fun v2 => (some (.next 0 [iD (IntKind.i64.wrap (s3 + v2)), iD (IntKind.i64.wrap (s4 + (1 : Int)))])))))) else some (.out 0 [iD s3])))
def winErr_L7_S (ka : Nat) (ca : List D) (kb : Nat) (cb : List D)  : Go.Ev.Rd → Option Go.Ev.Rd
  | .next 0 ds => winErr_L7_S0 ka ca kb cb ds
  | _ => none
theorem winErr_L7_S_ok (ka : Nat) (ca : List D) (kb : Nat) (cb : List D)  : ∀ s_ t_, winErr_L7_S ka ca kb cb s_ = some t_ → Step (ctx [16] winErr_sp) Tabs winErr_L7_A (stateOf (winErr_L7_gs ka ca kb cb s_)) (stateOf (winErr_L7_gs ka ca kb cb t_)) (winErr_L7_ax t_) ∧ EndOK winErr_L7_A.nx winErr_L7_A.low (winErr_L7_gs ka ca kb cb) t_
  | .next 0 ds, t_, h => by
    have h_ : winErr_L7_S0 ka ca kb cb ds = some t_ := h
    clear h
    unfold winErr_L7_S0 at h_
    obtain ⟨⟨s3, s4⟩, e0, h0⟩ := pullD_elim h_
    clear h_
    obtain rfl := tup_inj e0
    by_cases b1_ : s4 < (ka : Int)
    · have h2_ := (if_pos b1_).symm.trans h0
      obtain ⟨f3_, h4_⟩ := guardP_elim h2_
      obtain ⟨v0, f5_, h6_⟩ := pullD_elim h4_
      replace f5_ := readD_elim f5_
      obtain ⟨r1, f7_, h8_⟩ := pullD_elim h6_
      replace f7_ := m_25_ok f7_
      by_cases b9_ : r1 = false
      · have h10_ := (if_pos b9_).symm.trans h8_
        obtain rfl := Option.some.inj h10_
        exact ⟨step_pc 3000 (bT 2 []) [iD v0, .one (.bool r1)] [c_d b1_, c_f f3_, c_f f5_, c_no b9_] [k_c f7_] _ rfl (by kernel_rfl) (by kernel_rfl) (by kernel_rfl) (by kernel_rfl) (by kernel_rfl) (by kernel_rfl), by kernel_rfl, by kernel_rfl⟩
      have h10_ := (if_neg b9_).symm.trans h8_
      have b11_ : r1 = true := by first | exact b9_ | simpa using b9_
      obtain ⟨v2, f12_, h13_⟩ := pullD_elim h10_
      replace f12_ := readD_elim f12_
      obtain rfl := Option.some.inj h13_
      exact ⟨step_pc 3000 (bT 1 (bF 1 [])) [iD v0, .one (.bool r1), iD v2] [c_d b1_, c_f f3_, c_f f5_, c_nn b11_, c_f f3_, c_f f12_] [k_c f7_] _ rfl (by kernel_rfl) (by kernel_rfl) (by kernel_rfl) (by kernel_rfl) (by kernel_rfl) (by kernel_rfl), trivial⟩
    have h2_ := (if_neg b1_).symm.trans h0
    obtain rfl := Option.some.inj h2_
    exact ⟨step_pc 3000 (bF 1 []) [] [c_n b1_] [] _ rfl (by kernel_rfl) (by kernel_rfl) (by kernel_rfl) (by kernel_rfl) (by kernel_rfl) (by kernel_rfl), by kernel_rfl, by kernel_rfl⟩
  | .next (_ + 1) _, _, h => by cases h
  | .out _ _, _, h => by cases h
theorem winErr_L7_go (ka : Nat) (ca : List D) (kb : Nat) (cb : List D)  {q : Nat} {ds : List D} {j : Nat} {es : List D} (h : runR (winErr_L7_S ka ca kb cb) (.next q ds) = some (.out j es)) : Runs (ctx [16] winErr_sp) Tabs winErr_L7_A (stateOf (winErr_L7_gs ka ca kb cb (.next q ds))) (stateOf (winErr_L7_gs ka ca kb cb (.out j es))) (winErr_L7_ax (.out j es)) ∧ (nxtOf (winErr_L7_gs ka ca kb cb (.out j es)), lowGS (winErr_L7_gs ka ca kb cb (.out j es))) = (winErr_L7_A.nx, winErr_L7_A.low) :=
  runs_of' (good true _ _) winErr_L7_ok (ax := winErr_L7_ax) (fun _ _ => rfl) (fun _ _ => axOf_end _) (winErr_L7_S_ok ka ca kb cb) h
theorem winErr_L7_in0 (ka : Nat) (ca : List D) (kb : Nat) (cb : List D)  {es : List D} (h : runR (winErr_L7_S ka ca kb cb) (.next 0 [iD ((0 : Int)), iD ((0 : Int))]) = some (.out 0 es)) : LoopC (loopAt Try.prog 16 0) (winErr_L7_E ka ca kb cb) 3 noFrame winErr_x7_0 es :=
  have r := winErr_L7_go ka ca kb cb h
  loopin_as rfl (loop_in (l := winErr_L7_A) (E := (winErr_L7_E ka ca kb cb)) (S := stateOf (winErr_L7_gs ka ca kb cb (.next 0 [iD ((0 : Int)), iD ((0 : Int))]))) (ns := nsOf (winErr_L7_gs ka ca kb cb (.next 0 [iD ((0 : Int)), iD ((0 : Int))]))) winErr_L7_ok r.1 r.2 (by kernel_rfl) (by kernel_rfl) (by kernel_rfl) (by kernel_rfl))
theorem winErr_L7_in1 (ka : Nat) (ca : List D) (kb : Nat) (cb : List D)  {es : List D} (h : runR (winErr_L7_S ka ca kb cb) (.next 0 [iD ((0 : Int)), iD ((0 : Int))]) = some (.out 1 es)) : LoopC (loopAt Try.prog 16 0) (winErr_L7_E ka ca kb cb) 3 noFrame winErr_x7_1 es :=
  have r := winErr_L7_go ka ca kb cb h
  loopin_as rfl (loop_in (l := winErr_L7_A) (E := (winErr_L7_E ka ca kb cb)) (S := stateOf (winErr_L7_gs ka ca kb cb (.next 0 [iD ((0 : Int)), iD ((0 : Int))]))) (ns := nsOf (winErr_L7_gs ka ca kb cb (.next 0 [iD ((0 : Int)), iD ((0 : Int))]))) winErr_L7_ok r.1 r.2 (by kernel_rfl) (by kernel_rfl) (by kernel_rfl) (by kernel_rfl))
def winErr_M (ka : Nat) (ca : List D) (kb : Nat) (cb : List D) : Option D := (if (ka : Int) = (0 : Int) then some (iD (10 : Int)) else (if (kb : Int) ≠ (ka : Int) then some (iD (10 : Int)) else (if (ka : Int) > (15 : Int) then some (iD (8 : Int)) else bindL (runR (winErr_L7_S ka ca kb cb) (.next 0 [iD ((0 : Int)), iD ((0 : Int))])) fun j ds => (if j = 0 then pullD (α := Int) (some (.tup ds)) (fun d => ((D.vi (D.at d 0)))) (fun l0 => .tup [iD l0]) fun l0 => (bindL (runR (winErr_L13_S ka ca kb cb l0) (.next 0 [iD l0, iD ((0 : Int))])) fun j ds => (if j = 0 then pullD (α := Int) (some (.tup ds)) (fun d => ((D.vi (D.at d 0)))) (fun l1 => .tup [iD l1]) fun l1 => ((if l1 ≠ (0 : Int) then some (iD (13 : Int)) else some (iD (0 : Int)))) else if j = 1 then pullD (α := Int) (some (.tup ds)) (fun d => ((D.vi (D.at d 0)))) (fun l2 => .tup [iD l2]) fun l2 => (some (iD l2)) else none)) else if j = 1 then pullD (α := Int) (some (.tup ds)) (fun d => ((D.vi (D.at d 0)))) (fun l3 => .tup [iD l3]) fun l3 => (some (iD l3)) else none))))
theorem winErr_M_ok (ka : Nat) (ca : List D) (kb : Nat) (cb : List D) {r : D} (h : winErr_M ka ca kb cb = some r) : Con 16 [.agg [.list ka ca, .list kb cb]] r := by
  unfold winErr_M at h
  by_cases b1_ : (ka : Int) = (0 : Int)
  · have h2_ := (if_pos b1_).symm.trans h
    obtain rfl := Option.some.inj h2_
    exact con_pc (op := true) (I := [16]) (sp := winErr_sp) 3000 (bT 9 []) [] [c_e b1_, c_e b1_, c_e b1_, c_e b1_, c_e b1_, c_e b1_, c_e b1_, c_e b1_, c_T] [] (by kernel_rfl)
  have h2_ := (if_neg b1_).symm.trans h
  have b3_ : (ka : Int) ≠ (0 : Int) := by first | exact b1_ | simpa using b1_
  by_cases b4_ : (kb : Int) ≠ (ka : Int)
  · have h5_ := (if_pos b4_).symm.trans h2_
    obtain rfl := Option.some.inj h5_
    exact con_pc (op := true) (I := [16]) (sp := winErr_sp) 3000 (bF 8 (bT 1 [])) [] [c_en b3_, c_en b3_, c_en b3_, c_en b3_, c_en b3_, c_en b3_, c_en b3_, c_en b3_, c_b b4_] [] (by kernel_rfl)
  have h5_ := (if_neg b4_).symm.trans h2_
  have b6_ : (kb : Int) = (ka : Int) := by first | exact b4_ | simpa using b4_
  by_cases b7_ : (ka : Int) > (15 : Int)
  · have h8_ := (if_pos b7_).symm.trans h5_
    obtain rfl := Option.some.inj h8_
    exact con_pc (op := true) (I := [16]) (sp := winErr_sp) 3000 (bF 9 (bT 1 [])) [] [c_en b3_, c_en b3_, c_en b3_, c_en b3_, c_en b3_, c_en b3_, c_en b3_, c_en b3_, c_bn b6_, c_d b7_] [] (by kernel_rfl)
  have h8_ := (if_neg b7_).symm.trans h5_
  obtain ⟨j, ds, e9_, h10_⟩ := bindL_elim h8_
  by_cases j11_ : j = 0
  · have h14_ := (if_pos j11_).symm.trans h10_
    clear h10_
    subst j11_
    obtain ⟨l0, e12_, h15_⟩ := pullD_elim h14_
    clear h14_
    obtain rfl := tup_inj e12_
    have k13_ := winErr_L7_in0 ka ca kb cb e9_
    obtain ⟨j, ds, e16_, h17_⟩ := bindL_elim h15_
    by_cases j18_ : j = 0
    · have h21_ := (if_pos j18_).symm.trans h17_
      clear h17_
      subst j18_
      obtain ⟨l1, e19_, h22_⟩ := pullD_elim h21_
      clear h21_
      obtain rfl := tup_inj e19_
      have k20_ := winErr_L13_in0 ka ca kb cb l0 e16_
      by_cases b23_ : l1 ≠ (0 : Int)
      · have h24_ := (if_pos b23_).symm.trans h22_
        obtain rfl := Option.some.inj h24_
        exact con_pc (op := true) (I := [16]) (sp := winErr_sp) 3000 (bF 10 (bT 1 [])) [.tup [iD (Int.ofNat 0), iD l0], .tup [iD (Int.ofNat 0), iD l1]] [c_en b3_, c_en b3_, c_en b3_, c_en b3_, c_en b3_, c_en b3_, c_en b3_, c_en b3_, c_bn b6_, c_n b7_, c_b b23_] [k_l k13_ (bT 1 []) [.tup [iD (Int.ofNat 0), iD l0], .tup [iD (Int.ofNat 0), iD l1]] [.tup [iD (Int.ofNat 0), iD l1]], k_l k20_ (bT 1 []) [.tup [iD (Int.ofNat 0), iD l1]] []] (by kernel_rfl)
      have h24_ := (if_neg b23_).symm.trans h22_
      have b25_ : l1 = (0 : Int) := by first | exact b23_ | simpa using b23_
      obtain rfl := Option.some.inj h24_
      exact con_pc (op := true) (I := [16]) (sp := winErr_sp) 3000 (bF 11 []) [.tup [iD (Int.ofNat 0), iD l0], .tup [iD (Int.ofNat 0), iD l1]] [c_en b3_, c_en b3_, c_en b3_, c_en b3_, c_en b3_, c_en b3_, c_en b3_, c_en b3_, c_bn b6_, c_n b7_, c_bn b25_] [k_l k13_ (bF 1 []) [.tup [iD (Int.ofNat 0), iD l0], .tup [iD (Int.ofNat 0), iD l1]] [.tup [iD (Int.ofNat 0), iD l1]], k_l k20_ (bF 1 []) [.tup [iD (Int.ofNat 0), iD l1]] []] (by kernel_rfl)
    have h26_ := (if_neg j18_).symm.trans h17_
    clear h17_
    by_cases j27_ : j = 1
    · have h30_ := (if_pos j27_).symm.trans h26_
      clear h26_
      subst j27_
      obtain ⟨l2, e28_, h31_⟩ := pullD_elim h30_
      clear h30_
      obtain rfl := tup_inj e28_
      have k29_ := winErr_L13_in1 ka ca kb cb l0 e16_
      obtain rfl := Option.some.inj h31_
      exact con_pc (op := true) (I := [16]) (sp := winErr_sp) 3000 (bF 10 []) [.tup [iD (Int.ofNat 0), iD l0], .tup [iD (Int.ofNat 1), iD l2]] [c_en b3_, c_en b3_, c_en b3_, c_en b3_, c_en b3_, c_en b3_, c_en b3_, c_en b3_, c_bn b6_, c_n b7_] [k_l k13_ [] [.tup [iD (Int.ofNat 0), iD l0], .tup [iD (Int.ofNat 1), iD l2]] [.tup [iD (Int.ofNat 1), iD l2]], k_l k29_ [] [.tup [iD (Int.ofNat 1), iD l2]] []] (by kernel_rfl)
    have h32_ := (if_neg j27_).symm.trans h26_
    clear h26_
    cases h32_
  have h33_ := (if_neg j11_).symm.trans h10_
  clear h10_
  by_cases j34_ : j = 1
  · have h37_ := (if_pos j34_).symm.trans h33_
    clear h33_
    subst j34_
    obtain ⟨l3, e35_, h38_⟩ := pullD_elim h37_
    clear h37_
    obtain rfl := tup_inj e35_
    have k36_ := winErr_L7_in1 ka ca kb cb e9_
    obtain rfl := Option.some.inj h38_
    exact con_pc (op := true) (I := [16]) (sp := winErr_sp) 3000 (bF 10 []) [.tup [iD (Int.ofNat 1), iD l3]] [c_en b3_, c_en b3_, c_en b3_, c_en b3_, c_en b3_, c_en b3_, c_en b3_, c_en b3_, c_bn b6_, c_n b7_] [k_l k36_ [] [.tup [iD (Int.ofNat 1), iD l3]] []] (by kernel_rfl)
  have h39_ := (if_neg j34_).symm.trans h33_
  clear h33_
  cases h39_
def m_16 (ds : List D) : Option D := pullD (α := Nat × (List D) × Nat × (List D)) (some (.tup ds)) (fun d => ((D.ln (D.at (D.at d 0) 0)), (D.lc (D.at (D.at d 0) 0)), (D.ln (D.at (D.at d 0) 1)), (D.lc (D.at (D.at d 0) 1)))) (fun (ka, ca, kb, cb) => .tup [.agg [.list ka ca, .list kb cb]]) fun (ka, ca, kb, cb) => winErr_M ka ca kb cb
theorem m_16_ok {ds : List D} {r : D} (h : m_16 ds = some r) : Con 16 ds r := by
  unfold m_16 at h
  obtain ⟨⟨ka, ca, kb, cb⟩, e0, h0⟩ := pullD_elim h
  obtain rfl := tup_inj e0
  exact winErr_M_ok ka ca kb cb h0
theorem m_16_eq (ka : Nat) (ca : List D) (kb : Nat) (cb : List D) : m_16 [.agg [.list ka ca, .list kb cb]] = winErr_M ka ca kb cb := pullD_some (ka, ca, kb, cb) rfl rfl
def copyInts_sp : List LSpec := []
def copyInts_M (k : Nat) (c : List D) : Option D := guardP ((∀ (u : D), u ∈ c → cellD u) ∧ 0 ≤ 0 ∧ (0 + k) * 8 ≤ 140737488355328 ∧ 0 + k ≤ 4611686018427387904) (guardP (c.length = k * 1) (guardP ((0 + (0 + k)) * 1 ≤ (List.take (0 * 1) [] ++ c).length ∧ 0 < 1) (some (.list (0 + k) c))))
theorem copyInts_M_ok (k : Nat) (c : List D) {r : D} (h : copyInts_M k c = some r) : Con 42 [.list k c] r := by
  unfold copyInts_M at h
  obtain ⟨f1_, h2_⟩ := guardP_elim h
  obtain ⟨f3_, h4_⟩ := guardP_elim h2_
  obtain ⟨f5_, h6_⟩ := guardP_elim h4_
  obtain rfl := Option.some.inj h6_
  exact con_pc (op := true) (I := [42]) (sp := copyInts_sp) 3000 [] [] [c_f f1_, c_f f3_, c_f f5_] [] (by kernel_rfl)
def m_42 (ds : List D) : Option D := pullD (α := Nat × (List D)) (some (.tup ds)) (fun d => ((D.ln (D.at d 0)), (D.lc (D.at d 0)))) (fun (k, c) => .tup [.list k c]) fun (k, c) => copyInts_M k c
theorem m_42_ok {ds : List D} {r : D} (h : m_42 ds = some r) : Con 42 ds r := by
  unfold m_42 at h
  obtain ⟨⟨k, c⟩, e0, h0⟩ := pullD_elim h
  obtain rfl := tup_inj e0
  exact copyInts_M_ok k c h0
theorem m_42_eq (k : Nat) (c : List D) : m_42 [.list k c] = copyInts_M k c := pullD_some (k, c) rfl rfl
def copyW_sp : List LSpec := []
def copyW_M (ka : Nat) (ca : List D) (kb : Nat) (cb : List D) : Option D := pullD (α := Nat × (List D)) (m_42 [.list ka ca]) (fun d => ((D.ln d), (D.lc d))) (fun (k0, c1) => .list k0 c1) fun (k0, c1) => (pullD (α := Nat × (List D)) (m_42 [.list kb cb]) (fun d => ((D.ln d), (D.lc d))) (fun (k2, c3) => .list k2 c3) fun (k2, c3) => (some (.agg [.list k0 c1, .list k2 c3])))
theorem copyW_M_ok (ka : Nat) (ca : List D) (kb : Nat) (cb : List D) {r : D} (h : copyW_M ka ca kb cb = some r) : Con 11 [.agg [.list ka ca, .list kb cb]] r := by
  unfold copyW_M at h
  obtain ⟨⟨k0, c1⟩, f1_, h2_⟩ := pullD_elim h
  replace f1_ := m_42_ok f1_
  obtain ⟨⟨k2, c3⟩, f3_, h4_⟩ := pullD_elim h2_
  replace f3_ := m_42_ok f3_
  obtain rfl := Option.some.inj h4_
  exact con_pc (op := true) (I := [11]) (sp := copyW_sp) 3000 [] [.list k0 c1, .list k2 c3] [] [k_c f1_, k_c f3_] (by kernel_rfl)
def m_11 (ds : List D) : Option D := pullD (α := Nat × (List D) × Nat × (List D)) (some (.tup ds)) (fun d => ((D.ln (D.at (D.at d 0) 0)), (D.lc (D.at (D.at d 0) 0)), (D.ln (D.at (D.at d 0) 1)), (D.lc (D.at (D.at d 0) 1)))) (fun (ka, ca, kb, cb) => .tup [.agg [.list ka ca, .list kb cb]]) fun (ka, ca, kb, cb) => copyW_M ka ca kb cb
theorem m_11_ok {ds : List D} {r : D} (h : m_11 ds = some r) : Con 11 ds r := by
  unfold m_11 at h
  obtain ⟨⟨ka, ca, kb, cb⟩, e0, h0⟩ := pullD_elim h
  obtain rfl := tup_inj e0
  exact copyW_M_ok ka ca kb cb h0
theorem m_11_eq (ka : Nat) (ca : List D) (kb : Nat) (cb : List D) : m_11 [.agg [.list ka ca, .list kb cb]] = copyW_M ka ca kb cb := pullD_some (ka, ca, kb, cb) rfl rfl
def few_sp : List LSpec := []
def few_M (ka : Nat) (ca : List D) (kb : Nat) (cb : List D) : Option D := (if (ka : Int) ≤ (17 : Int) then some (.one (.bool (decide ((kb : Int) ≤ (17 : Int))))) else some (.one (.bool false)))
theorem few_M_ok (ka : Nat) (ca : List D) (kb : Nat) (cb : List D) {r : D} (h : few_M ka ca kb cb = some r) : Con 9 [.agg [.list ka ca, .list kb cb]] r := by
  unfold few_M at h
  by_cases b1_ : (ka : Int) ≤ (17 : Int)
  · have h2_ := (if_pos b1_).symm.trans h
    obtain rfl := Option.some.inj h2_
    exact con_pc (op := true) (I := [9]) (sp := few_sp) 3000 (bT 5 []) [] [c_d b1_, c_d b1_, c_d b1_, c_d b1_, c_d b1_] [] (by kernel_rfl)
  have h2_ := (if_neg b1_).symm.trans h
  obtain rfl := Option.some.inj h2_
  exact con_pc (op := true) (I := [9]) (sp := few_sp) 3000 (bF 5 []) [] [c_n b1_, c_n b1_, c_n b1_, c_n b1_, c_n b1_] [] (by kernel_rfl)
def m_9 (ds : List D) : Option D := pullD (α := Nat × (List D) × Nat × (List D)) (some (.tup ds)) (fun d => ((D.ln (D.at (D.at d 0) 0)), (D.lc (D.at (D.at d 0) 0)), (D.ln (D.at (D.at d 0) 1)), (D.lc (D.at (D.at d 0) 1)))) (fun (ka, ca, kb, cb) => .tup [.agg [.list ka ca, .list kb cb]]) fun (ka, ca, kb, cb) => few_M ka ca kb cb
theorem m_9_ok {ds : List D} {r : D} (h : m_9 ds = some r) : Con 9 ds r := by
  unfold m_9 at h
  obtain ⟨⟨ka, ca, kb, cb⟩, e0, h0⟩ := pullD_elim h
  obtain rfl := tup_inj e0
  exact few_M_ok ka ca kb cb h0
theorem m_9_eq (ka : Nat) (ca : List D) (kb : Nat) (cb : List D) : m_9 [.agg [.list ka ca, .list kb cb]] = few_M ka ca kb cb := pullD_some (ka, ca, kb, cb) rfl rfl
end
end Go.Proofs.Ytbfefnfmdkgfjaa
/- Windows: which are valid, sums, residuals. -/
namespace Go.Proofs.Ytbfefnfmdkgfjaa
open Go.Ev Go.RowKit
set_option maxRecDepth 100000
abbrev wnD (a b : List Int) : D := .agg [lD a, lD b]
/-- A valid window. -/
structure Win (a b : List Int) : Prop where
  len : b.length = a.length
  pos : 0 < a.length
  le : a.length ≤ 15
  ra : ∀ i, -100 ≤ at' a i ∧ at' a i ≤ 100
  rb : ∀ i, -100 ≤ at' b i ∧ at' b i ≤ 100
  sum : sumTo (at' a) a.length + sumTo (at' b) a.length = 0
theorem within_eq (n lo hi : Int) : m_25 [iD n, iD lo, iD hi] = some (.one (.bool (decide (lo ≤ n ∧ n ≤ hi)))) := by
  rw [m_25_eq]
  unfold within_M
  by_cases h : lo ≤ n
  · rw [if_pos h]; simp [h]
  · rw [if_neg h]; simp [h]
theorem readN {l : List Int} {i : Nat} (h : i < l.length) : readD (l.map iD) (i * 1) 1 false = some (iD (at' l i)) := readA h
theorem readM {n i : Nat} (f : Nat → Int) (h : i < n) : readD ((tab n f).map iD) (i * 1) 1 false = some (iD (f i)) := readT f h
theorem readM0 {n i : Nat} (f : Nat → Int) (h : i < n) : readD ((tab n f).map iD) (0 + i * 1) 1 false = some (iD (f i)) := by rw [Nat.zero_add]; exact readT f h
theorem natI {i : Nat} (h : i < 1000000000000000) : IntKind.i64.wrap ((i : Int) + 1) = ((i + 1 : Nat) : Int) := by rw [wrapJ _ (by omega) (by omega)]; omega
theorem range_all {l : List Int} (h : ∀ j, 0 ≤ j → j < l.length → -100 ≤ at' l j ∧ at' l j ≤ 100) : ∀ i, -100 ≤ at' l i ∧ at' l i ≤ 100 := fun i => by
  rcases Nat.lt_or_ge i l.length with h1 | h1
  · exact h i (Nat.zero_le _) h1
  · rw [at_out h1]; omega
theorem sums_eq (l : List Int) (hl : l.length ≤ 1000) (hb : ∀ k, k ≤ l.length → -1000000000000 ≤ sumTo (at' l) k ∧ sumTo (at' l) k ≤ 1000000000000) :
    m_66 [lD l] = some (lD (tab (l.length + 1) (sumTo (at' l)))) := by
  rw [m_66_eq]
  unfold sumsOf_M
  have e1 : IntKind.i64.wrap ((l.length : Int) + 1) = ((l.length + 1 : Nat) : Int) := natI (by omega)
  rw [e1, Int.toNat_natCast, guardP_pos ⟨by omega, by omega, by omega, by omega⟩, guardP_pos (Nat.le_refl _), zeros_list, tab_zeros]
  have h0 : (tab (l.length + 1) fun j => if j ≤ 0 then sumTo (at' l) j else 0) = tab (l.length + 1) fun _ => 0 := by
    apply tab_congr
    intro j hj
    split
    · rename_i h; have : j = 0 := by omega
      subst this; rfl
    · rfl
  rw [← h0]
  have h1 : runR (sumsOf_L3_S l.length (l.map iD)) (.next 0 [iD 0, .list (l.length + 1) ((tab (l.length + 1) fun j => if j ≤ 0 then sumTo (at' l) j else 0).map iD)]) = _ := runR_scan (S := sumsOf_L3_S l.length (l.map iD)) (fun _ => 0) (fun i => [iD (i : Int), .list (l.length + 1) ((tab (l.length + 1) fun j => if j ≤ i then sumTo (at' l) j else 0).map iD)]) (Nat.zero_le l.length) (fun i _ hi => by
    show sumsOf_L3_S0 _ _ _ = _
    unfold sumsOf_L3_S0
    rw [pullD_some ((i : Int), l.length + 1, (tab (l.length + 1) fun j => if j ≤ i then sumTo (at' l) j else 0).map iD) (by rfl) (by rfl)]
    dsimp only
    have e2 : IntKind.i64.wrap ((i : Int) + 1) = ((i + 1 : Nat) : Int) := natI (by omega)
    have h2 := hb (i + 1) hi
    simp only [e1, e2, Int.toNat_natCast]
    rw [if_pos (by omega), guardP_pos (by omega), readN hi, pullD_some (at' l i) (by rfl) (by rfl), guardP_pos (by omega), readM0 _ (by omega), pullD_some (if i ≤ i then sumTo (at' l) i else 0) (by rfl) (by rfl), guardP_pos (by omega), if_pos (Nat.le_refl i)]
    have e3 : IntKind.i64.wrap (sumTo (at' l) i + at' l i) = sumTo (at' l) (i + 1) := by
      show _ = sumTo (at' l) i + at' l i
      have : sumTo (at' l) (i + 1) = sumTo (at' l) i + at' l i := rfl
      exact wrapJ _ (by omega) (by omega)
    rw [guardP_pos ⟨by simp [tab_len]; omega, cellD_int _⟩, e3, set_list _ _ _ (by rw [tab_len]; omega), tab_set]
    have h5 : (tab (l.length + 1) fun j => if j = i + 1 then sumTo (at' l) (i + 1) else if j ≤ i then sumTo (at' l) j else 0) = tab (l.length + 1) fun j => if j ≤ i + 1 then sumTo (at' l) j else 0 := tab_congr fun j hj => by
      by_cases h3 : j = i + 1
      · subst h3; simp
      · simp only [h3, if_false]
        by_cases h4 : j ≤ i
        · rw [if_pos h4, if_pos (by omega)]
        · rw [if_neg h4, if_neg (by omega)]
    rw [h5])
  have h2 : runR (sumsOf_L3_S l.length (l.map iD)) (.next 0 [iD (l.length : Int), .list (l.length + 1) ((tab (l.length + 1) fun j => if j ≤ l.length then sumTo (at' l) j else 0).map iD)]) = some (.out 0 [.list (l.length + 1) ((tab (l.length + 1) fun j => if j ≤ l.length then sumTo (at' l) j else 0).map iD)]) := runR_exit (by
    show sumsOf_L3_S0 _ _ _ = _
    unfold sumsOf_L3_S0
    rw [pullD_some ((l.length : Int), l.length + 1, (tab (l.length + 1) fun j => if j ≤ l.length then sumTo (at' l) j else 0).map iD) (by rfl) (by rfl)]
    dsimp only
    rw [if_neg (by omega), e1, Int.toNat_natCast])
  rw [bindL_some (h1.trans h2), if_pos rfl, pullD_some (l.length + 1, (tab (l.length + 1) fun j => if j ≤ l.length then sumTo (at' l) j else 0).map iD) (by rfl) (by rfl)]
  have h3 : (tab (l.length + 1) fun j => if j ≤ l.length then sumTo (at' l) j else 0) = tab (l.length + 1) (sumTo (at' l)) := tab_congr fun j hj => if_pos (by omega)
  simp only [h3, lD, tab_len]
theorem sum_eq (l : List Int) (hl : l.length ≤ 1000) (hb : ∀ k, k ≤ l.length → -1000000000000 ≤ sumTo (at' l) k ∧ sumTo (at' l) k ≤ 1000000000000) :
    m_52 [lD l] = some (iD (sumTo (at' l) l.length)) := by
  rw [m_52_eq]
  unfold sumOf_M
  rw [show [D.list l.length (l.map iD)] = [lD l] from rfl, sums_eq l hl hb, pullD_some (l.length + 1, (tab (l.length + 1) (sumTo (at' l))).map iD) (by simp only [lD, tab_len]) (by rfl)]
  dsimp only
  rw [guardP_pos (by omega), readT _ (by omega), pullD_some (sumTo (at' l) l.length) (by rfl) (by rfl)]
end Go.Proofs.Ytbfefnfmdkgfjaa
namespace Go.Proofs.Ytbfefnfmdkgfjaa
open Go.Ev Go.RowKit
set_option maxRecDepth 100000
set_option maxHeartbeats 8000000
set_option linter.all false
noncomputable section
end
end Go.Proofs.Ytbfefnfmdkgfjaa
/- Windows: residuals, axial and radial forces, thrusts. -/
namespace Go.Proofs.Ytbfefnfmdkgfjaa
open Go.Ev Go.RowKit
set_option maxRecDepth 100000
section
variable {a b : List Int}
/-- The residual at a boundary, the axial and the radial forces at a level. -/
def rs (a b : List Int) (k : Nat) : Int := sumTo (fun j => at' a j + at' b j) k
def ax (t a b : List Int) (i : Nat) : Int := at' t i * (rs a b i + rs a b (i + 1))
theorem rs_bound (h : Win a b) {k : Nat} (hk : k ≤ 20) : -4000 ≤ rs a b k ∧ rs a b k ≤ 4000 := by
  have := sumTo_bound (f := fun j => at' a j + at' b j) (B := 200) (k := k) fun i _ => by have := h.ra i; have := h.rb i; omega
  unfold rs; omega
theorem cells_int (l : List Int) : ∀ u : D, u ∈ l.map iD → cellD u := by
  intro u hu
  obtain ⟨x, -, rfl⟩ := List.mem_map.1 hu
  rfl
theorem residuals_eq (h : Win a b) : m_41 [wnD a b] = some (lD (tab (a.length + 1) (rs a b))) := by
  have hp := h.pos
  have hle := h.le
  have hlen := h.len
  rw [m_41_eq]
  unfold residuals_M
  rw [guardP_pos hp, guardP_pos ⟨cells_int a, Nat.le_refl _, by omega, by omega⟩, guardP_pos (by simp)]
  have h1 : runR (residuals_L3_S a.length (a.map iD) b.length (b.map iD)) (.next 0 [iD 0, .list (0 + a.length) ((tab a.length fun j => if j < 0 then at' a j + at' b j else at' a j).map iD)]) = _ := runR_scan (S := residuals_L3_S a.length (a.map iD) b.length (b.map iD)) (fun _ => 0) (fun i => [iD (i : Int), .list (0 + a.length) ((tab a.length fun j => if j < i then at' a j + at' b j else at' a j).map iD)]) (Nat.zero_le a.length) (fun i _ hi => by
    show residuals_L3_S0 a.length (a.map iD) b.length (b.map iD) _ = _
    unfold residuals_L3_S0
    rw [pullD_some ((i : Int), 0 + a.length, (tab a.length fun j => if j < i then at' a j + at' b j else at' a j).map iD) (by rfl) (by rfl)]
    dsimp only
    have e2 : IntKind.i64.wrap ((i : Int) + 1) = ((i + 1 : Nat) : Int) := natI (by omega)
    have ha := h.ra i
    have hb := h.rb i
    simp only [e2, Int.toNat_natCast]
    rw [if_pos (by omega), guardP_pos (by omega), readN (by omega), pullD_some (at' b i) (by rfl) (by rfl), guardP_pos (by omega), readM0 _ hi, pullD_some (if i < i then at' a i + at' b i else at' a i) (by rfl) (by rfl), if_neg (Nat.lt_irrefl i), guardP_pos ⟨by simp [tab_len]; omega, cellD_int _⟩, wrapJ (at' a i + at' b i) (by omega) (by omega), set_list _ _ _ (by rw [tab_len]; omega), tab_set]
    have h5 : (tab a.length fun j => if j = i then at' a i + at' b i else if j < i then at' a j + at' b j else at' a j) = tab a.length fun j => if j < i + 1 then at' a j + at' b j else at' a j := tab_congr fun j hj => by
      by_cases h3 : j = i
      · subst h3; simp
      · simp only [h3, if_false]
        by_cases h4 : j < i
        · rw [if_pos h4, if_pos (by omega)]
        · rw [if_neg h4, if_neg (by omega)]
    rw [h5])
  have h2 : runR (residuals_L3_S a.length (a.map iD) b.length (b.map iD)) (.next 0 [iD (a.length : Int), .list (0 + a.length) ((tab a.length fun j => if j < a.length then at' a j + at' b j else at' a j).map iD)]) = some (.out 0 [.list (0 + a.length) ((tab a.length fun j => if j < a.length then at' a j + at' b j else at' a j).map iD)]) := runR_exit (by
    show residuals_L3_S0 a.length (a.map iD) b.length (b.map iD) _ = _
    unfold residuals_L3_S0
    rw [pullD_some ((a.length : Int), 0 + a.length, (tab a.length fun j => if j < a.length then at' a j + at' b j else at' a j).map iD) (by rfl) (by rfl)]
    dsimp only
    rw [if_neg (by omega)])
  have h0 : (tab a.length fun j => if j < 0 then at' a j + at' b j else at' a j) = a := by
    rw [tab_congr (g := at' a) fun j _ => if_neg (Nat.not_lt_zero j), tab_of]
  rw [h0] at h1
  have h3 : (tab a.length fun j => if j < a.length then at' a j + at' b j else at' a j) = tab a.length fun j => at' a j + at' b j := tab_congr fun j hj => if_pos hj
  rw [bindL_some (h1.trans h2), if_pos rfl, h3, pullD_some (0 + a.length, (tab a.length fun j => at' a j + at' b j).map iD) (by rfl) (by rfl)]
  dsimp only
  rw [guardP_pos (by simp [tab_len])]
  have hat : ∀ k, k ≤ a.length → sumTo (at' (tab a.length fun j => at' a j + at' b j)) k = rs a b k := fun k hk => sumTo_congr fun i hi => tab_at _ (by omega)
  have h4 := sums_eq (tab a.length fun j => at' a j + at' b j) (by rw [tab_len]; omega) (fun k hk => by
    rw [tab_len] at hk
    rw [hat k hk]
    have := rs_bound h (k := k) (by omega)
    omega)
  have h6 : D.list (0 + a.length) ((tab a.length fun j => at' a j + at' b j).map iD) = lD (tab a.length fun j => at' a j + at' b j) := by simp only [lD, tab_len, Nat.zero_add]
  rw [h6, h4, tab_len, tab_congr fun i hi => hat i (by omega), pullD_some (a.length + 1, (tab (a.length + 1) (rs a b)).map iD) (by simp only [lD, tab_len]) (by rfl)]
  simp only [lD, tab_len]
end
end Go.Proofs.Ytbfefnfmdkgfjaa
/- Windows: axial forces, thrusts; what is checked. -/
namespace Go.Proofs.Ytbfefnfmdkgfjaa
open Go.Ev Go.RowKit
set_option maxRecDepth 100000
section
variable {a b : List Int}
/-! What is checked. -/
theorem chk_loop (l : List Int) (hl : l.length ≤ 1000) (hr : ∀ i, -100 ≤ at' l i ∧ at' l i ≤ 100) (kk : Nat) (cc : List D) (S : Rd → Option Rd) (hS : ∀ ds, S (.next 0 ds) = chkWindow_L71_2_S0 l.length (l.map iD) kk cc ds) : runR S (.next 0 [iD 0]) = some (.out 0 []) := by
  have h1 : runR S (.next 0 [iD 0]) = _ := runR_scan (S := S) (fun _ => 0) (fun i => [iD (i : Int)]) (Nat.zero_le l.length) (fun i _ hi => by
    show S (.next 0 _) = _
    rw [hS]
    unfold chkWindow_L71_2_S0
    rw [pullD_some (i : Int) (by rfl) (by rfl)]
    have := hr i
    rw [if_pos (by omega), guardP_pos (by omega), readA hi, pullD_some (at' l i) (by rfl) (by rfl), if_neg (by omega), if_neg (by omega), natI (by omega)])
  refine h1.trans (runR_exit ?_)
  rw [hS]
  unfold chkWindow_L71_2_S0
  rw [pullD_some (l.length : Int) (by rfl) (by rfl), if_neg (by omega)]
theorem first_eq (l : List Int) (hl : l.length ≤ 1000) : m_47 [lD l] = some (iD ((l.find? fun x => x != 0).getD 0)) := by
  rw [m_47_eq]
  unfold firstOf_M
  have key : ∀ m i, i + m = l.length → runR (firstOf_L2_S l.length (l.map iD)) (.next 0 [iD (i : Int)]) = (match (l.drop i).find? (fun x => x != 0) with | some x => some (.out 1 [iD x]) | none => some (.out 0 [])) := by
    intro m
    induction m with
    | zero =>
      intro i hi
      rw [List.drop_of_length_le (by omega)]
      refine runR_exit ?_
      show firstOf_L2_S0 l.length (l.map iD) _ = _
      unfold firstOf_L2_S0
      rw [pullD_some (i : Int) (by rfl) (by rfl), if_neg (by omega)]
    | succ m ih =>
      intro i hi
      have hlt : i < l.length := by omega
      have hd : l.drop i = at' l i :: l.drop (i + 1) := by
        rw [List.drop_eq_getElem_cons hlt]
        congr 1
        unfold at'
        rw [List.getElem?_eq_getElem hlt]; rfl
      rw [hd, List.find?_cons]
      have hst : firstOf_L2_S l.length (l.map iD) (.next 0 [iD (i : Int)]) = if at' l i ≠ 0 then some (.out 1 [iD (at' l i)]) else some (.next 0 [iD ((i + 1 : Nat) : Int)]) := by
        show firstOf_L2_S0 l.length (l.map iD) _ = _
        unfold firstOf_L2_S0
        rw [pullD_some (i : Int) (by rfl) (by rfl), if_pos (by omega), guardP_pos (by omega), readA hlt, pullD_some (at' l i) (by rfl) (by rfl), natI (by omega)]
      by_cases h0 : at' l i = 0
      · rw [if_neg (by simpa using h0)] at hst
        rw [runR_next hst, ih (i + 1) (by omega), show (at' l i != 0) = false by simp [h0]]
      · rw [if_pos h0] at hst
        rw [runR_exit hst, show (at' l i != 0) = true by simp [h0]]
  have h := key l.length 0 (by omega)
  rw [List.drop_zero, Int.natCast_zero] at h
  cases hf : l.find? (fun x => x != 0) with
  | none =>
    rw [hf] at h
    rw [bindL_some (j := 0) (ds := []) h, if_pos rfl, pullD_some () (by rfl) (by rfl)]
    rfl
  | some x =>
    rw [hf] at h
    rw [bindL_some (j := 1) (ds := [iD x]) h, if_neg (by decide), if_pos rfl, pullD_some x (by rfl) (by rfl)]
    rfl
theorem chkCount_eq {n : Int} (h1 : 1 ≤ n) (h2 : n ≤ 15) : m_51 [iD n, iD 15] = some (iD 0) := by
  rw [m_51_eq]
  unfold chkCount_M
  rw [if_neg (by omega), if_neg (by omega)]
theorem chkWindow_eq (h : Win a b) : m_17 [wnD a b] = some (iD 0) := by
  have hp := h.pos
  have hle := h.le
  have hlen := h.len
  rw [m_17_eq]
  unfold chkWindow_M
  rw [if_neg (by omega), chkCount_eq (by omega) (by omega), pullD_some (0 : Int) (by rfl) (by rfl),
    bindL_some (chk_loop a (by omega) h.ra b.length (b.map iD) (chkWindow_L71_2_S a.length (a.map iD) b.length (b.map iD)) (fun _ => rfl)), if_pos rfl, pullD_some () (by rfl) (by rfl),
    bindL_some (chk_loop b (by omega) h.rb a.length (a.map iD) (chkWindow_L71_2_1_S a.length (a.map iD) b.length (b.map iD)) (fun _ => rfl)), if_pos rfl, pullD_some () (by rfl) (by rfl),
    show [D.list 3 [iD 0, iD 0, iD 0]] = [lD [0, 0, 0]] from rfl, first_eq _ (by decide), pullD_some (0 : Int) (by rfl) (by rfl), if_neg (by decide)]
  have sb : ∀ {l : List Int}, l.length ≤ 1000 → (∀ i, -100 ≤ at' l i ∧ at' l i ≤ 100) → m_52 [lD l] = some (iD (sumTo (at' l) l.length)) := fun {l} hl hr => sum_eq l hl fun k hk => by
    have := sumTo_bound (f := at' l) (B := 100) (k := k) fun i _ => hr i
    omega
  have h3 := sumTo_bound (f := at' a) (B := 100) (k := a.length) fun i _ => h.ra i
  have h4 := h.sum
  rw [show [D.list a.length (a.map iD)] = [lD a] from rfl, sb (by omega) h.ra, pullD_some (sumTo (at' a) a.length) (by rfl) (by rfl), show [D.list b.length (b.map iD)] = [lD b] from rfl, sb (by omega) h.rb, pullD_some (sumTo (at' b) b.length) (by rfl) (by rfl), hlen, h4, if_neg (by decide)]
theorem chkd_eq (h : Win a b) : m_40 [wnD a b] = some (.tup [wnD a b, iD 0]) := by
  rw [m_40_eq]
  unfold chkdWindow_M
  rw [show [D.agg [D.list a.length (a.map iD), D.list b.length (b.map iD)]] = [wnD a b] from rfl, chkWindow_eq h, pullD_some (0 : Int) (by rfl) (by rfl), if_neg (by decide)]
theorem copyInts_eq (l : List Int) (hl : l.length ≤ 1000) : m_42 [lD l] = some (lD l) := by
  rw [m_42_eq]
  unfold copyInts_M
  rw [guardP_pos ⟨cells_int l, Nat.le_refl _, by omega, by omega⟩, guardP_pos (by simp), guardP_pos ⟨by simp, by omega⟩, Nat.zero_add]
theorem copyW_eq (a b : List Int) (ha : a.length ≤ 1000) (hb : b.length ≤ 1000) : m_11 [wnD a b] = some (wnD a b) := by
  rw [m_11_eq]
  unfold copyW_M
  rw [show [D.list a.length (a.map iD)] = [lD a] from rfl, copyInts_eq a ha, pullD_some (a.length, a.map iD) (by rfl) (by rfl)]
  dsimp only
  rw [show [D.list b.length (b.map iD)] = [lD b] from rfl, copyInts_eq b hb, pullD_some (b.length, b.map iD) (by rfl) (by rfl)]
theorem few_eq (a b : List Int) : m_9 [wnD a b] = some (.one (.bool (decide (a.length ≤ 17 ∧ b.length ≤ 17)))) := by
  rw [m_9_eq]
  unfold few_M
  by_cases h : a.length ≤ 17
  · rw [if_pos (by omega)]
    have : decide ((b.length : Int) ≤ 17) = decide (a.length ≤ 17 ∧ b.length ≤ 17) := by
      rw [decide_eq_decide]; omega
    rw [this]
  · rw [if_neg (by omega)]
    have : decide (a.length ≤ 17 ∧ b.length ≤ 17) = false := by rw [decide_eq_false_iff_not]; omega
    rw [this]
end
end Go.Proofs.Ytbfefnfmdkgfjaa
/- Windows, as arguments. -/
namespace Go.Proofs.Ytbfefnfmdkgfjaa
open Go.Ev Go.RowKit
theorem list_of {α : Type} {es : List CT} {enc : α → List D} (he : ∀ r, okDs es r → ∃ a, r = enc a) {d : D} (h : okD (.sl es) d) : ∃ ys : List α, d = .list ys.length (ys.map enc).flatten ∧ ys.length ≤ maxLen := by
  simp only [okD] at h
  obtain ⟨rows, rfl, hl, hr⟩ := h
  have : ∀ rows : List (List D), (∀ r ∈ rows, okDs es r) → ∃ ys : List α, rows = ys.map enc := by
    intro rows
    induction rows with
    | nil => intro _; exact ⟨[], rfl⟩
    | cons r rs ih =>
      intro h
      obtain ⟨a, rfl⟩ := he r (h r (by simp))
      obtain ⟨ys, rfl⟩ := ih fun q hq => h q (by simp [hq])
      exact ⟨a :: ys, rfl⟩
  obtain ⟨ys, rfl⟩ := this rows hr
  exact ⟨ys, by rw [List.length_map], by rwa [List.length_map] at hl⟩
theorem single_flat {α : Type} (f : α → D) : ∀ l : List α, (l.map fun x => [f x]).flatten = l.map f
  | [] => rfl
  | a :: l => by simp only [List.map_cons, List.flatten_cons, single_flat f l]; rfl
theorem ints_of {d : D} (h : okD (.sl [.int .i64]) d) : ∃ l : List Int, d = lD l := by
  obtain ⟨l, rfl, -⟩ := list_of (enc := fun x : Int => [iD x]) (fun r hr => by
    simp only [okDs, okD] at hr
    obtain ⟨_, _, rfl, ⟨x, rfl, -⟩, rfl⟩ := hr
    exact ⟨x, rfl⟩) h
  exact ⟨l, by rw [single_flat]⟩
theorem win_of {ds : List D} (h : okDs [.sl [.int .i64], .sl [.int .i64]] ds) : ∃ a b : List Int, ds = [lD a, lD b] := by
  rw [okDs] at h
  obtain ⟨d, t, rfl, h1, h2⟩ := h
  rw [okDs] at h2
  obtain ⟨e, t, rfl, h3, h4⟩ := h2
  simp only [okDs] at h4
  subst h4
  obtain ⟨a, rfl⟩ := ints_of h1
  obtain ⟨b, rfl⟩ := ints_of h3
  exact ⟨a, b, rfl⟩
theorem int_of {k : IntKind} {d : D} (h : okD (.int k) d) : ∃ x, d = .one (.int k x) ∧ (Lit.int k x).wf = true := by
  simp only [okD] at h
  exact h
end Go.Proofs.Ytbfefnfmdkgfjaa
namespace Go.Proofs.Ytbfefnfmdkgfjaa
open Go.Ev Go.RowKit
set_option maxRecDepth 100000
set_option maxHeartbeats 8000000
set_option linter.all false
noncomputable section
def ints_x4_0 : LExit := ⟨some 0, [], (4 :: (5 :: (List.range' 11 15)))⟩
def ints_x4_1 : LExit := ⟨none, [.val 4], (5 :: (List.range' 11 15))⟩
def ints_sp : List LSpec := [⟨19, 4, [ints_x4_0, ints_x4_1]⟩]
def ints_L4_E (ka : Nat) (ca : List D) (kb : Nat) (cb : List D)  : List AV × AHeap := ([.dsl 0, .dsl 1, .pure (.tuple #[]), .pure (.tuple #[]), .pure (.bool false), .pure (.int .i64 (0 : Int)), .dsl 0, .pure (.int .i64 (ka : Int)), .dsl 1, .pure (.int .i64 (kb : Int)), .pure (.bool ((ka : Int) != (kb : Int))), .pure (.tuple #[]), .pure (.tuple #[]), .pure (.tuple #[]), .pure (.tuple #[]), .pure (.tuple #[]), .pure (.tuple #[]), .pure (.tuple #[]), .pure (.tuple #[]), .pure (.tuple #[]), .pure (.tuple #[]), .pure (.tuple #[]), .pure (.tuple #[]), .pure (.tuple #[]), .pure (.tuple #[]), .pure (.tuple #[])], [(1, { cells := [], opn := none, kind := .deep kb cb }), (0, { cells := [], opn := none, kind := .deep ka ca })])
def ints_L4_A : LoopAt := ⟨19, loopAt Try.prog 19 0, 2, 19, 2, noFrame⟩
theorem ints_L4_ok : (ints_L4_A).OK := ⟨by show 2 ≤ 19; decide, by show 2 ≤ 2; decide, by kernel_rfl, rfl⟩
def ints_L4_gs (ka : Nat) (ca : List D) (kb : Nat) (cb : List D)  : Go.Ev.Rd → Option GS
  | .next 0 ds => ghost [.val 5] (4 :: (List.range' 11 15)) (ints_L4_E ka ca kb cb).1 (ints_L4_E ka ca kb cb).2 2 ds
  | .out 0 ds => ghost ints_x4_0.live ints_x4_0.junk (ints_L4_E ka ca kb cb).1 (ints_L4_E ka ca kb cb).2 2 ds
  | .out 1 ds => ghost ints_x4_1.live ints_x4_1.junk (ints_L4_E ka ca kb cb).1 (ints_L4_E ka ca kb cb).2 2 ds
  | _ => none
def ints_L4_ex : Nat → Option Nat
  | 0 => ints_x4_0.ex
  | 1 => ints_x4_1.ex
  | _ => none
def ints_L4_ax : Go.Ev.Rd → AX
  | .next _ _ => .normal
  | .out j _ => axOf (ints_L4_ex j)
def ints_L4_S0 (ka : Nat) (ca : List D) (kb : Nat) (cb : List D)  (ds : List D) : Option Go.Ev.Rd := pullD (α := Int) (some (.tup ds)) (fun d => ((D.vi (D.at d 0)))) (fun s5 => .tup [iD s5]) fun s5 => ((if s5 < (ka : Int) then guardP ((0 : Int) ≤ s5 ∧ s5.toNat < ka) (pullD (α := Int) (readD ca (s5.toNat * 1) 1 false) (fun d => ((D.vi d))) (fun v0 => iD v0) fun v0 => (guardP ((0 : Int) ≤ s5 ∧ s5.toNat < kb) (pullD (α := Int) (readD cb (s5.toNat * 1) 1 false) (fun d => ((D.vi d))) (fun v1 => iD v1) fun v1 => ((if v0 ≠ v1 then some (.out 1 [.one (.bool false)]) else some (.next 0 [iD (IntKind.i64.wrap (s5 + (1 : Int)))])))))) else some (.out 0 [])))
def ints_L4_S (ka : Nat) (ca : List D) (kb : Nat) (cb : List D)  : Go.Ev.Rd → Option Go.Ev.Rd
  | .next 0 ds => ints_L4_S0 ka ca kb cb ds
  | _ => none
theorem ints_L4_S_ok (ka : Nat) (ca : List D) (kb : Nat) (cb : List D)  : ∀ s_ t_, ints_L4_S ka ca kb cb s_ = some t_ → Step (ctx [19] ints_sp) Tabs ints_L4_A (stateOf (ints_L4_gs ka ca kb cb s_)) (stateOf (ints_L4_gs ka ca kb cb t_)) (ints_L4_ax t_) ∧ EndOK ints_L4_A.nx ints_L4_A.low (ints_L4_gs ka ca kb cb) t_
  | .next 0 ds, t_, h => by
    have h_ : ints_L4_S0 ka ca kb cb ds = some t_ := h
    clear h
    unfold ints_L4_S0 at h_
    obtain ⟨s5, e0, h0⟩ := pullD_elim h_
    clear h_
    obtain rfl := tup_inj e0
    by_cases b1_ : s5 < (ka : Int)
    · have h2_ := (if_pos b1_).symm.trans h0
      obtain ⟨f3_, h4_⟩ := guardP_elim h2_
      obtain ⟨v0, f5_, h6_⟩ := pullD_elim h4_
      replace f5_ := readD_elim f5_
      obtain ⟨f7_, h8_⟩ := guardP_elim h6_
      obtain ⟨v1, f9_, h10_⟩ := pullD_elim h8_
      replace f9_ := readD_elim f9_
      by_cases b11_ : v0 ≠ v1
      · have h12_ := (if_pos b11_).symm.trans h10_
        obtain rfl := Option.some.inj h12_
        exact ⟨step_pc 3000 (bT 2 []) [iD v0, iD v1] [c_d b1_, c_f f3_, c_f f5_, c_f f7_, c_f f9_, c_b b11_] [] _ rfl (by kernel_rfl) (by kernel_rfl) (by kernel_rfl) (by kernel_rfl) (by kernel_rfl) (by kernel_rfl), by kernel_rfl, by kernel_rfl⟩
      have h12_ := (if_neg b11_).symm.trans h10_
      have b13_ : v0 = v1 := by first | exact b11_ | simpa using b11_
      obtain rfl := Option.some.inj h12_
      exact ⟨step_pc 3000 (bT 1 (bF 1 [])) [iD v0, iD v1] [c_d b1_, c_f f3_, c_f f5_, c_f f7_, c_f f9_, c_bn b13_] [] _ rfl (by kernel_rfl) (by kernel_rfl) (by kernel_rfl) (by kernel_rfl) (by kernel_rfl) (by kernel_rfl), trivial⟩
    have h2_ := (if_neg b1_).symm.trans h0
    obtain rfl := Option.some.inj h2_
    exact ⟨step_pc 3000 (bF 1 []) [] [c_n b1_] [] _ rfl (by kernel_rfl) (by kernel_rfl) (by kernel_rfl) (by kernel_rfl) (by kernel_rfl) (by kernel_rfl), by kernel_rfl, by kernel_rfl⟩
  | .next (_ + 1) _, _, h => by cases h
  | .out _ _, _, h => by cases h
theorem ints_L4_go (ka : Nat) (ca : List D) (kb : Nat) (cb : List D)  {q : Nat} {ds : List D} {j : Nat} {es : List D} (h : runR (ints_L4_S ka ca kb cb) (.next q ds) = some (.out j es)) : Runs (ctx [19] ints_sp) Tabs ints_L4_A (stateOf (ints_L4_gs ka ca kb cb (.next q ds))) (stateOf (ints_L4_gs ka ca kb cb (.out j es))) (ints_L4_ax (.out j es)) ∧ (nxtOf (ints_L4_gs ka ca kb cb (.out j es)), lowGS (ints_L4_gs ka ca kb cb (.out j es))) = (ints_L4_A.nx, ints_L4_A.low) :=
  runs_of' (good true _ _) ints_L4_ok (ax := ints_L4_ax) (fun _ _ => rfl) (fun _ _ => axOf_end _) (ints_L4_S_ok ka ca kb cb) h
theorem ints_L4_in0 (ka : Nat) (ca : List D) (kb : Nat) (cb : List D)  {es : List D} (h : runR (ints_L4_S ka ca kb cb) (.next 0 [iD ((0 : Int))]) = some (.out 0 es)) : LoopC (loopAt Try.prog 19 0) (ints_L4_E ka ca kb cb) 2 noFrame ints_x4_0 es :=
  have r := ints_L4_go ka ca kb cb h
  loopin_as rfl (loop_in (l := ints_L4_A) (E := (ints_L4_E ka ca kb cb)) (S := stateOf (ints_L4_gs ka ca kb cb (.next 0 [iD ((0 : Int))]))) (ns := nsOf (ints_L4_gs ka ca kb cb (.next 0 [iD ((0 : Int))]))) ints_L4_ok r.1 r.2 (by kernel_rfl) (by kernel_rfl) (by kernel_rfl) (by kernel_rfl))
theorem ints_L4_in1 (ka : Nat) (ca : List D) (kb : Nat) (cb : List D)  {es : List D} (h : runR (ints_L4_S ka ca kb cb) (.next 0 [iD ((0 : Int))]) = some (.out 1 es)) : LoopC (loopAt Try.prog 19 0) (ints_L4_E ka ca kb cb) 2 noFrame ints_x4_1 es :=
  have r := ints_L4_go ka ca kb cb h
  loopin_as rfl (loop_in (l := ints_L4_A) (E := (ints_L4_E ka ca kb cb)) (S := stateOf (ints_L4_gs ka ca kb cb (.next 0 [iD ((0 : Int))]))) (ns := nsOf (ints_L4_gs ka ca kb cb (.next 0 [iD ((0 : Int))]))) ints_L4_ok r.1 r.2 (by kernel_rfl) (by kernel_rfl) (by kernel_rfl) (by kernel_rfl))
def ints_M (ka : Nat) (ca : List D) (kb : Nat) (cb : List D) : Option D := (if (ka : Int) ≠ (kb : Int) then some (.one (.bool false)) else bindL (runR (ints_L4_S ka ca kb cb) (.next 0 [iD ((0 : Int))])) fun j ds => (if j = 0 then pullD (some (.tup ds)) (fun _ => ()) (fun _ => .tup []) fun _ => (some (.one (.bool true))) else if j = 1 then pullD (α := Bool) (some (.tup ds)) (fun d => ((D.vb (D.at d 0)))) (fun l0 => .tup [.one (.bool l0)]) fun l0 => (some (.one (.bool l0))) else none))
theorem ints_M_ok (ka : Nat) (ca : List D) (kb : Nat) (cb : List D) {r : D} (h : ints_M ka ca kb cb = some r) : Con 19 [.list ka ca, .list kb cb] r := by
  unfold ints_M at h
  by_cases b1_ : (ka : Int) ≠ (kb : Int)
  · have h2_ := (if_pos b1_).symm.trans h
    obtain rfl := Option.some.inj h2_
    exact con_pc (op := true) (I := [19]) (sp := ints_sp) 3000 (bT 1 []) [] [c_b b1_] [] (by kernel_rfl)
  have h2_ := (if_neg b1_).symm.trans h
  have b3_ : (ka : Int) = (kb : Int) := by first | exact b1_ | simpa using b1_
  obtain ⟨j, ds, e4_, h5_⟩ := bindL_elim h2_
  by_cases j6_ : j = 0
  · have h9_ := (if_pos j6_).symm.trans h5_
    clear h5_
    subst j6_
    obtain ⟨⟨⟩, e7_, h10_⟩ := pullD_elim h9_
    clear h9_
    obtain rfl := tup_inj e7_
    have k8_ := ints_L4_in0 ka ca kb cb e4_
    obtain rfl := Option.some.inj h10_
    exact con_pc (op := true) (I := [19]) (sp := ints_sp) 3000 (bF 1 []) [.tup [iD (Int.ofNat 0)]] [c_bn b3_] [k_l k8_ [] [.tup [iD (Int.ofNat 0)]] []] (by kernel_rfl)
  have h11_ := (if_neg j6_).symm.trans h5_
  clear h5_
  by_cases j12_ : j = 1
  · have h15_ := (if_pos j12_).symm.trans h11_
    clear h11_
    subst j12_
    obtain ⟨l0, e13_, h16_⟩ := pullD_elim h15_
    clear h15_
    obtain rfl := tup_inj e13_
    have k14_ := ints_L4_in1 ka ca kb cb e4_
    obtain rfl := Option.some.inj h16_
    exact con_pc (op := true) (I := [19]) (sp := ints_sp) 3000 (bF 1 []) [.tup [iD (Int.ofNat 1), .one (.bool l0)]] [c_bn b3_] [k_l k14_ [] [.tup [iD (Int.ofNat 1), .one (.bool l0)]] []] (by kernel_rfl)
  have h17_ := (if_neg j12_).symm.trans h11_
  clear h11_
  cases h17_
def m_19 (ds : List D) : Option D := pullD (α := Nat × (List D) × Nat × (List D)) (some (.tup ds)) (fun d => ((D.ln (D.at d 0)), (D.lc (D.at d 0)), (D.ln (D.at d 1)), (D.lc (D.at d 1)))) (fun (ka, ca, kb, cb) => .tup [.list ka ca, .list kb cb]) fun (ka, ca, kb, cb) => ints_M ka ca kb cb
theorem m_19_ok {ds : List D} {r : D} (h : m_19 ds = some r) : Con 19 ds r := by
  unfold m_19 at h
  obtain ⟨⟨ka, ca, kb, cb⟩, e0, h0⟩ := pullD_elim h
  obtain rfl := tup_inj e0
  exact ints_M_ok ka ca kb cb h0
theorem m_19_eq (ka : Nat) (ca : List D) (kb : Nat) (cb : List D) : m_19 [.list ka ca, .list kb cb] = ints_M ka ca kb cb := pullD_some (ka, ca, kb, cb) rfl rfl
def same_sp : List LSpec := []
def same_M (ka : Nat) (ca : List D) (kb : Nat) (cb : List D) (kc : Nat) (cc : List D) (kd : Nat) (cd : List D) : Option D := pullD (α := Bool) (m_19 [.list ka ca, .list kc cc]) (fun d => ((D.vb d))) (fun r0 => .one (.bool r0)) fun r0 => ((if (r0) = true then pullD (α := Bool) (m_19 [.list kb cb, .list kd cd]) (fun d => ((D.vb d))) (fun r1 => .one (.bool r1)) fun r1 => (some (.one (.bool r1))) else some (.one (.bool false))))
theorem same_M_ok (ka : Nat) (ca : List D) (kb : Nat) (cb : List D) (kc : Nat) (cc : List D) (kd : Nat) (cd : List D) {r : D} (h : same_M ka ca kb cb kc cc kd cd = some r) : Con 30 [.agg [.list ka ca, .list kb cb], .agg [.list kc cc, .list kd cd]] r := by
  unfold same_M at h
  obtain ⟨r0, f1_, h2_⟩ := pullD_elim h
  replace f1_ := m_19_ok f1_
  by_cases b3_ : (r0) = true
  · have h4_ := (if_pos b3_).symm.trans h2_
    obtain ⟨r1, f5_, h6_⟩ := pullD_elim h4_
    replace f5_ := m_19_ok f5_
    obtain rfl := Option.some.inj h6_
    exact con_pc (op := true) (I := [30]) (sp := same_sp) 3000 (bT 6 []) [.one (.bool r0), .one (.bool r1)] [c_q b3_, c_q b3_, c_q b3_, c_q b3_, c_q b3_, c_q b3_] [k_c f1_, k_c f5_] (by kernel_rfl)
  have h4_ := (if_neg b3_).symm.trans h2_
  have b7_ : (r0) = false := by first | exact b3_ | simpa using b3_
  obtain rfl := Option.some.inj h4_
  exact con_pc (op := true) (I := [30]) (sp := same_sp) 3000 (bF 6 []) [.one (.bool r0)] [c_q b7_, c_q b7_, c_q b7_, c_q b7_, c_q b7_, c_q b7_] [k_c f1_] (by kernel_rfl)
def m_30 (ds : List D) : Option D := pullD (α := Nat × (List D) × Nat × (List D) × Nat × (List D) × Nat × (List D)) (some (.tup ds)) (fun d => ((D.ln (D.at (D.at d 0) 0)), (D.lc (D.at (D.at d 0) 0)), (D.ln (D.at (D.at d 0) 1)), (D.lc (D.at (D.at d 0) 1)), (D.ln (D.at (D.at d 1) 0)), (D.lc (D.at (D.at d 1) 0)), (D.ln (D.at (D.at d 1) 1)), (D.lc (D.at (D.at d 1) 1)))) (fun (ka, ca, kb, cb, kc, cc, kd, cd) => .tup [.agg [.list ka ca, .list kb cb], .agg [.list kc cc, .list kd cd]]) fun (ka, ca, kb, cb, kc, cc, kd, cd) => same_M ka ca kb cb kc cc kd cd
theorem m_30_ok {ds : List D} {r : D} (h : m_30 ds = some r) : Con 30 ds r := by
  unfold m_30 at h
  obtain ⟨⟨ka, ca, kb, cb, kc, cc, kd, cd⟩, e0, h0⟩ := pullD_elim h
  obtain rfl := tup_inj e0
  exact same_M_ok ka ca kb cb kc cc kd cd h0
theorem m_30_eq (ka : Nat) (ca : List D) (kb : Nat) (cb : List D) (kc : Nat) (cc : List D) (kd : Nat) (cd : List D) : m_30 [.agg [.list ka ca, .list kb cb], .agg [.list kc cc, .list kd cd]] = same_M ka ca kb cb kc cc kd cd := pullD_some (ka, ca, kb, cb, kc, cc, kd, cd) rfl rfl
def shiftErr_sp : List LSpec := []
def shiftErr_M (ka : Nat) (ca : List D) (kb : Nat) (cb : List D) (n : Int) : Option D := pullD (α := Bool) (m_25 [iD n, iD (-3 : Int), iD (3 : Int)]) (fun d => ((D.vb d))) (fun r0 => .one (.bool r0)) fun r0 => ((if r0 = false then some (iD (2 : Int)) else pullD (α := Int) (m_55 [iD n]) (fun d => ((D.vi d))) (fun r1 => iD r1) fun r1 => ((if IntKind.i64.wrap ((ka : Int) + r1) > (15 : Int) then some (iD (8 : Int)) else some (iD (0 : Int))))))
theorem shiftErr_M_ok (ka : Nat) (ca : List D) (kb : Nat) (cb : List D) (n : Int) {r : D} (h : shiftErr_M ka ca kb cb n = some r) : Con 32 [.agg [.list ka ca, .list kb cb], iD n] r := by
  unfold shiftErr_M at h
  obtain ⟨r0, f1_, h2_⟩ := pullD_elim h
  replace f1_ := m_25_ok f1_
  by_cases b3_ : r0 = false
  · have h4_ := (if_pos b3_).symm.trans h2_
    obtain rfl := Option.some.inj h4_
    exact con_pc (op := true) (I := [32]) (sp := shiftErr_sp) 3000 (bT 1 []) [.one (.bool r0)] [c_no b3_] [k_c f1_] (by kernel_rfl)
  have h4_ := (if_neg b3_).symm.trans h2_
  have b5_ : r0 = true := by first | exact b3_ | simpa using b3_
  obtain ⟨r1, f6_, h7_⟩ := pullD_elim h4_
  replace f6_ := m_55_ok f6_
  by_cases b8_ : IntKind.i64.wrap ((ka : Int) + r1) > (15 : Int)
  · have h9_ := (if_pos b8_).symm.trans h7_
    obtain rfl := Option.some.inj h9_
    exact con_pc (op := true) (I := [32]) (sp := shiftErr_sp) 3000 (bF 1 (bT 1 [])) [.one (.bool r0), iD r1] [c_nn b5_, c_d b8_] [k_c f1_, k_c f6_] (by kernel_rfl)
  have h9_ := (if_neg b8_).symm.trans h7_
  obtain rfl := Option.some.inj h9_
  exact con_pc (op := true) (I := [32]) (sp := shiftErr_sp) 3000 (bF 2 []) [.one (.bool r0), iD r1] [c_nn b5_, c_n b8_] [k_c f1_, k_c f6_] (by kernel_rfl)
def m_32 (ds : List D) : Option D := pullD (α := Nat × (List D) × Nat × (List D) × Int) (some (.tup ds)) (fun d => ((D.ln (D.at (D.at d 0) 0)), (D.lc (D.at (D.at d 0) 0)), (D.ln (D.at (D.at d 0) 1)), (D.lc (D.at (D.at d 0) 1)), (D.vi (D.at d 1)))) (fun (ka, ca, kb, cb, n) => .tup [.agg [.list ka ca, .list kb cb], iD n]) fun (ka, ca, kb, cb, n) => shiftErr_M ka ca kb cb n
theorem m_32_ok {ds : List D} {r : D} (h : m_32 ds = some r) : Con 32 ds r := by
  unfold m_32 at h
  obtain ⟨⟨ka, ca, kb, cb, n⟩, e0, h0⟩ := pullD_elim h
  obtain rfl := tup_inj e0
  exact shiftErr_M_ok ka ca kb cb n h0
theorem m_32_eq (ka : Nat) (ca : List D) (kb : Nat) (cb : List D) (n : Int) : m_32 [.agg [.list ka ca, .list kb cb], iD n] = shiftErr_M ka ca kb cb n := pullD_some (ka, ca, kb, cb, n) rfl rfl
def padded_sp : List LSpec := []
def padded_M (k : Nat) (c : List D) (x y : Int) : Option D := guardP ((0 : Int) ≤ IntKind.i64.wrap (IntKind.i64.wrap (x + (k : Int)) + y) ∧ IntKind.i64.wrap (IntKind.i64.wrap (x + (k : Int)) + y) ≤ IntKind.i64.wrap (IntKind.i64.wrap (x + (k : Int)) + y) ∧ 8 * (IntKind.i64.wrap (IntKind.i64.wrap (x + (k : Int)) + y)).toNat ≤ 140737488355328 ∧ (IntKind.i64.wrap (IntKind.i64.wrap (x + (k : Int)) + y)).toNat ≤ 140737488355328) (guardP ((0 : Int) ≤ x ∧ x ≤ (((IntKind.i64.wrap (IntKind.i64.wrap (x + (k : Int)) + y)).toNat : Nat) : Int) ∧ (((IntKind.i64.wrap (IntKind.i64.wrap (x + (k : Int)) + y)).toNat : Nat) : Int) ≤ (((IntKind.i64.wrap (IntKind.i64.wrap (x + (k : Int)) + y)).toNat : Nat) : Int) ∧ x < (((IntKind.i64.wrap (IntKind.i64.wrap (x + (k : Int)) + y)).toNat : Nat) : Int)) (guardP (k ≤ ((((IntKind.i64.wrap (IntKind.i64.wrap (x + (k : Int)) + y)).toNat : Nat) : Int)).toNat - x.toNat ∧ 0 + x.toNat * 1 + k * 1 ≤ (manyZeros (Value.int .i64 (0 : Int)).cells.toList (IntKind.i64.wrap (IntKind.i64.wrap (x + (k : Int)) + y)).toNat).length ∧ ∀ (u : D), u ∈ c → cellD u) (guardP (c.length = k * 1) (guardP ((IntKind.i64.wrap (IntKind.i64.wrap (x + (k : Int)) + y)).toNat ≤ (IntKind.i64.wrap (IntKind.i64.wrap (x + (k : Int)) + y)).toNat) (some (.list (IntKind.i64.wrap (IntKind.i64.wrap (x + (k : Int)) + y)).toNat (List.append (List.take (0 + x.toNat * 1) (manyZeros (Value.int .i64 (0 : Int)).cells.toList (IntKind.i64.wrap (IntKind.i64.wrap (x + (k : Int)) + y)).toNat) ++ c) (List.drop (0 + x.toNat * 1 + c.length) (manyZeros (Value.int .i64 (0 : Int)).cells.toList (IntKind.i64.wrap (IntKind.i64.wrap (x + (k : Int)) + y)).toNat)))))))))
theorem padded_M_ok (k : Nat) (c : List D) (x y : Int) {r : D} (h : padded_M k c x y = some r) : Con 70 [.list k c, iD x, iD y] r := by
  unfold padded_M at h
  obtain ⟨f1_, h2_⟩ := guardP_elim h
  obtain ⟨f3_, h4_⟩ := guardP_elim h2_
  obtain ⟨f5_, h6_⟩ := guardP_elim h4_
  obtain ⟨f7_, h8_⟩ := guardP_elim h6_
  obtain ⟨f9_, h10_⟩ := guardP_elim h8_
  obtain rfl := Option.some.inj h10_
  exact con_pc (op := true) (I := [70]) (sp := padded_sp) 3000 [] [] [c_f f1_, c_f f3_, c_f f5_, c_f f7_, c_f f9_] [] (by kernel_rfl)
def m_70 (ds : List D) : Option D := pullD (α := Nat × (List D) × Int × Int) (some (.tup ds)) (fun d => ((D.ln (D.at d 0)), (D.lc (D.at d 0)), (D.vi (D.at d 1)), (D.vi (D.at d 2)))) (fun (k, c, x, y) => .tup [.list k c, iD x, iD y]) fun (k, c, x, y) => padded_M k c x y
theorem m_70_ok {ds : List D} {r : D} (h : m_70 ds = some r) : Con 70 ds r := by
  unfold m_70 at h
  obtain ⟨⟨k, c, x, y⟩, e0, h0⟩ := pullD_elim h
  obtain rfl := tup_inj e0
  exact padded_M_ok k c x y h0
theorem m_70_eq (k : Nat) (c : List D) (x y : Int) : m_70 [.list k c, iD x, iD y] = padded_M k c x y := pullD_some (k, c, x, y) rfl rfl
def shifted_sp : List LSpec := []
def shifted_M (ka : Nat) (ca : List D) (kb : Nat) (cb : List D) (n : Int) : Option D := pullD (α := Nat × (List D)) (m_70 [.list ka ca, iD (if (0 : Int) > IntKind.i64.wrap ((0 : Int) - n) then (0 : Int) else IntKind.i64.wrap ((0 : Int) - n)), iD (if (0 : Int) > n then (0 : Int) else n)]) (fun d => ((D.ln d), (D.lc d))) (fun (k0, c1) => .list k0 c1) fun (k0, c1) => (pullD (α := Nat × (List D)) (m_70 [.list kb cb, iD (if (0 : Int) > n then (0 : Int) else n), iD (if (0 : Int) > IntKind.i64.wrap ((0 : Int) - n) then (0 : Int) else IntKind.i64.wrap ((0 : Int) - n))]) (fun d => ((D.ln d), (D.lc d))) (fun (k2, c3) => .list k2 c3) fun (k2, c3) => (some (.agg [.list k0 c1, .list k2 c3])))
theorem shifted_M_ok (ka : Nat) (ca : List D) (kb : Nat) (cb : List D) (n : Int) {r : D} (h : shifted_M ka ca kb cb n = some r) : Con 56 [.agg [.list ka ca, .list kb cb], iD n] r := by
  unfold shifted_M at h
  obtain ⟨⟨k0, c1⟩, f1_, h2_⟩ := pullD_elim h
  replace f1_ := m_70_ok f1_
  obtain ⟨⟨k2, c3⟩, f3_, h4_⟩ := pullD_elim h2_
  replace f3_ := m_70_ok f3_
  obtain rfl := Option.some.inj h4_
  exact con_pc (op := true) (I := [56]) (sp := shifted_sp) 3000 [] [.list k0 c1, .list k2 c3] [] [k_c f1_, k_c f3_] (by kernel_rfl)
def m_56 (ds : List D) : Option D := pullD (α := Nat × (List D) × Nat × (List D) × Int) (some (.tup ds)) (fun d => ((D.ln (D.at (D.at d 0) 0)), (D.lc (D.at (D.at d 0) 0)), (D.ln (D.at (D.at d 0) 1)), (D.lc (D.at (D.at d 0) 1)), (D.vi (D.at d 1)))) (fun (ka, ca, kb, cb, n) => .tup [.agg [.list ka ca, .list kb cb], iD n]) fun (ka, ca, kb, cb, n) => shifted_M ka ca kb cb n
theorem m_56_ok {ds : List D} {r : D} (h : m_56 ds = some r) : Con 56 ds r := by
  unfold m_56 at h
  obtain ⟨⟨ka, ca, kb, cb, n⟩, e0, h0⟩ := pullD_elim h
  obtain rfl := tup_inj e0
  exact shifted_M_ok ka ca kb cb n h0
theorem m_56_eq (ka : Nat) (ca : List D) (kb : Nat) (cb : List D) (n : Int) : m_56 [.agg [.list ka ca, .list kb cb], iD n] = shifted_M ka ca kb cb n := pullD_some (ka, ca, kb, cb, n) rfl rfl
def shiftedOf_sp : List LSpec := []
def shiftedOf_M (ka : Nat) (ca : List D) (kb : Nat) (cb : List D) (n : Int) : Option D := pullD (α := Nat × (List D) × Nat × (List D) × Int) (m_40 [.agg [.list ka ca, .list kb cb]]) (fun d => ((D.ln (D.at (D.at d 0) 0)), (D.lc (D.at (D.at d 0) 0)), (D.ln (D.at (D.at d 0) 1)), (D.lc (D.at (D.at d 0) 1)), (D.vi (D.at d 1)))) (fun (k0, c1, k2, c3, r4) => .tup [.agg [.list k0 c1, .list k2 c3], iD r4]) fun (k0, c1, k2, c3, r4) => ((if n < IntKind.i64.wrap ((0 : Int) - (3 : Int)) then pullD (α := Int) (m_47 [.list 2 [iD r4, iD (2 : Int)]]) (fun d => ((D.vi d))) (fun r5 => iD r5) fun r5 => ((if r5 ≠ (0 : Int) then some (.tup [.agg [.list 0 [], .list 0 []], iD r5]) else pullD (α := Nat × (List D) × Nat × (List D)) (m_56 [.agg [.list k0 c1, .list k2 c3], iD n]) (fun d => ((D.ln (D.at d 0)), (D.lc (D.at d 0)), (D.ln (D.at d 1)), (D.lc (D.at d 1)))) (fun (k6, c7, k8, c9) => .agg [.list k6 c7, .list k8 c9]) fun (k6, c7, k8, c9) => ((if (k6 : Int) > (15 : Int) then some (.tup [.agg [.list 0 [], .list 0 []], iD (8 : Int)]) else some (.tup [.agg [.list k6 c7, .list k8 c9], iD (0 : Int)]))))) else (if n > (3 : Int) then pullD (α := Int) (m_47 [.list 2 [iD r4, iD (2 : Int)]]) (fun d => ((D.vi d))) (fun r10 => iD r10) fun r10 => ((if r10 ≠ (0 : Int) then some (.tup [.agg [.list 0 [], .list 0 []], iD r10]) else pullD (α := Nat × (List D) × Nat × (List D)) (m_56 [.agg [.list k0 c1, .list k2 c3], iD n]) (fun d => ((D.ln (D.at d 0)), (D.lc (D.at d 0)), (D.ln (D.at d 1)), (D.lc (D.at d 1)))) (fun (k11, c12, k13, c14) => .agg [.list k11 c12, .list k13 c14]) fun (k11, c12, k13, c14) => ((if (k11 : Int) > (15 : Int) then some (.tup [.agg [.list 0 [], .list 0 []], iD (8 : Int)]) else some (.tup [.agg [.list k11 c12, .list k13 c14], iD (0 : Int)]))))) else pullD (α := Int) (m_47 [.list 2 [iD r4, iD (0 : Int)]]) (fun d => ((D.vi d))) (fun r15 => iD r15) fun r15 => ((if r15 ≠ (0 : Int) then some (.tup [.agg [.list 0 [], .list 0 []], iD r15]) else pullD (α := Nat × (List D) × Nat × (List D)) (m_56 [.agg [.list k0 c1, .list k2 c3], iD n]) (fun d => ((D.ln (D.at d 0)), (D.lc (D.at d 0)), (D.ln (D.at d 1)), (D.lc (D.at d 1)))) (fun (k16, c17, k18, c19) => .agg [.list k16 c17, .list k18 c19]) fun (k16, c17, k18, c19) => ((if (k16 : Int) > (15 : Int) then some (.tup [.agg [.list 0 [], .list 0 []], iD (8 : Int)]) else some (.tup [.agg [.list k16 c17, .list k18 c19], iD (0 : Int)]))))))))
theorem shiftedOf_M_ok (ka : Nat) (ca : List D) (kb : Nat) (cb : List D) (n : Int) {r : D} (h : shiftedOf_M ka ca kb cb n = some r) : Con 27 [.agg [.list ka ca, .list kb cb], iD n] r := by
  unfold shiftedOf_M at h
  obtain ⟨⟨k0, c1, k2, c3, r4⟩, f1_, h2_⟩ := pullD_elim h
  replace f1_ := m_40_ok f1_
  by_cases b3_ : n < IntKind.i64.wrap ((0 : Int) - (3 : Int))
  · have h4_ := (if_pos b3_).symm.trans h2_
    obtain ⟨r5, f5_, h6_⟩ := pullD_elim h4_
    replace f5_ := m_47_ok f5_
    by_cases b7_ : r5 ≠ (0 : Int)
    · have h8_ := (if_pos b7_).symm.trans h6_
      obtain rfl := Option.some.inj h8_
      exact con_pc (op := true) (I := [27, 50, 59, 71]) (sp := shiftedOf_sp) 3000 (bT 7 []) [.tup [.agg [.list k0 c1, .list k2 c3], iD r4], iD r5] [c_T, c_d b3_, c_d b3_, c_d b3_, c_d b3_, c_T, c_le 1, c_b b7_] [k_c f1_, k_c f5_] (by kernel_rfl)
    have h8_ := (if_neg b7_).symm.trans h6_
    have b9_ : r5 = (0 : Int) := by first | exact b7_ | simpa using b7_
    obtain ⟨⟨k6, c7, k8, c9⟩, f10_, h11_⟩ := pullD_elim h8_
    replace f10_ := m_56_ok f10_
    by_cases b12_ : (k6 : Int) > (15 : Int)
    · have h13_ := (if_pos b12_).symm.trans h11_
      obtain rfl := Option.some.inj h13_
      exact con_pc (op := true) (I := [27, 50, 59, 71]) (sp := shiftedOf_sp) 3000 (bT 6 (bF 1 (bT 1 []))) [.tup [.agg [.list k0 c1, .list k2 c3], iD r4], iD r5, .agg [.list k6 c7, .list k8 c9]] [c_T, c_d b3_, c_d b3_, c_d b3_, c_d b3_, c_T, c_le 1, c_bn b9_, c_d b12_] [k_c f1_, k_c f5_, k_c f10_] (by kernel_rfl)
    have h13_ := (if_neg b12_).symm.trans h11_
    obtain rfl := Option.some.inj h13_
    exact con_pc (op := true) (I := [27, 50, 59, 71]) (sp := shiftedOf_sp) 3000 (bT 6 (bF 2 [])) [.tup [.agg [.list k0 c1, .list k2 c3], iD r4], iD r5, .agg [.list k6 c7, .list k8 c9]] [c_T, c_d b3_, c_d b3_, c_d b3_, c_d b3_, c_T, c_le 1, c_bn b9_, c_n b12_] [k_c f1_, k_c f5_, k_c f10_] (by kernel_rfl)
  have h4_ := (if_neg b3_).symm.trans h2_
  by_cases b14_ : n > (3 : Int)
  · have h15_ := (if_pos b14_).symm.trans h4_
    obtain ⟨r10, f16_, h17_⟩ := pullD_elim h15_
    replace f16_ := m_47_ok f16_
    by_cases b18_ : r10 ≠ (0 : Int)
    · have h19_ := (if_pos b18_).symm.trans h17_
      obtain rfl := Option.some.inj h19_
      exact con_pc (op := true) (I := [27, 50, 59, 71]) (sp := shiftedOf_sp) 3000 (bT 1 (bF 4 (bT 2 []))) [.tup [.agg [.list k0 c1, .list k2 c3], iD r4], iD r10] [c_T, c_n b3_, c_n b3_, c_n b3_, c_n b3_, c_d b14_, c_le 1, c_b b18_] [k_c f1_, k_c f16_] (by kernel_rfl)
    have h19_ := (if_neg b18_).symm.trans h17_
    have b20_ : r10 = (0 : Int) := by first | exact b18_ | simpa using b18_
    obtain ⟨⟨k11, c12, k13, c14⟩, f21_, h22_⟩ := pullD_elim h19_
    replace f21_ := m_56_ok f21_
    by_cases b23_ : (k11 : Int) > (15 : Int)
    · have h24_ := (if_pos b23_).symm.trans h22_
      obtain rfl := Option.some.inj h24_
      exact con_pc (op := true) (I := [27, 50, 59, 71]) (sp := shiftedOf_sp) 3000 (bT 1 (bF 4 (bT 1 (bF 1 (bT 1 []))))) [.tup [.agg [.list k0 c1, .list k2 c3], iD r4], iD r10, .agg [.list k11 c12, .list k13 c14]] [c_T, c_n b3_, c_n b3_, c_n b3_, c_n b3_, c_d b14_, c_le 1, c_bn b20_, c_d b23_] [k_c f1_, k_c f16_, k_c f21_] (by kernel_rfl)
    have h24_ := (if_neg b23_).symm.trans h22_
    obtain rfl := Option.some.inj h24_
    exact con_pc (op := true) (I := [27, 50, 59, 71]) (sp := shiftedOf_sp) 3000 (bT 1 (bF 4 (bT 1 (bF 2 [])))) [.tup [.agg [.list k0 c1, .list k2 c3], iD r4], iD r10, .agg [.list k11 c12, .list k13 c14]] [c_T, c_n b3_, c_n b3_, c_n b3_, c_n b3_, c_d b14_, c_le 1, c_bn b20_, c_n b23_] [k_c f1_, k_c f16_, k_c f21_] (by kernel_rfl)
  have h15_ := (if_neg b14_).symm.trans h4_
  obtain ⟨r15, f25_, h26_⟩ := pullD_elim h15_
  replace f25_ := m_47_ok f25_
  by_cases b27_ : r15 ≠ (0 : Int)
  · have h28_ := (if_pos b27_).symm.trans h26_
    obtain rfl := Option.some.inj h28_
    exact con_pc (op := true) (I := [27, 50, 59, 71]) (sp := shiftedOf_sp) 3000 (bT 1 (bF 6 (bT 1 []))) [.tup [.agg [.list k0 c1, .list k2 c3], iD r4], iD r15] [c_T, c_n b3_, c_n b3_, c_n b3_, c_n b3_, c_n b14_, c_F, c_le 1, c_b b27_] [k_c f1_, k_c f25_] (by kernel_rfl)
  have h28_ := (if_neg b27_).symm.trans h26_
  have b29_ : r15 = (0 : Int) := by first | exact b27_ | simpa using b27_
  obtain ⟨⟨k16, c17, k18, c19⟩, f30_, h31_⟩ := pullD_elim h28_
  replace f30_ := m_56_ok f30_
  by_cases b32_ : (k16 : Int) > (15 : Int)
  · have h33_ := (if_pos b32_).symm.trans h31_
    obtain rfl := Option.some.inj h33_
    exact con_pc (op := true) (I := [27, 50, 59, 71]) (sp := shiftedOf_sp) 3000 (bT 1 (bF 7 (bT 1 []))) [.tup [.agg [.list k0 c1, .list k2 c3], iD r4], iD r15, .agg [.list k16 c17, .list k18 c19]] [c_T, c_n b3_, c_n b3_, c_n b3_, c_n b3_, c_n b14_, c_F, c_le 1, c_bn b29_, c_d b32_] [k_c f1_, k_c f25_, k_c f30_] (by kernel_rfl)
  have h33_ := (if_neg b32_).symm.trans h31_
  obtain rfl := Option.some.inj h33_
  exact con_pc (op := true) (I := [27, 50, 59, 71]) (sp := shiftedOf_sp) 3000 (bT 1 (bF 8 [])) [.tup [.agg [.list k0 c1, .list k2 c3], iD r4], iD r15, .agg [.list k16 c17, .list k18 c19]] [c_T, c_n b3_, c_n b3_, c_n b3_, c_n b3_, c_n b14_, c_F, c_le 1, c_bn b29_, c_n b32_] [k_c f1_, k_c f25_, k_c f30_] (by kernel_rfl)
def m_27 (ds : List D) : Option D := pullD (α := Nat × (List D) × Nat × (List D) × Int) (some (.tup ds)) (fun d => ((D.ln (D.at (D.at d 0) 0)), (D.lc (D.at (D.at d 0) 0)), (D.ln (D.at (D.at d 0) 1)), (D.lc (D.at (D.at d 0) 1)), (D.vi (D.at d 1)))) (fun (ka, ca, kb, cb, n) => .tup [.agg [.list ka ca, .list kb cb], iD n]) fun (ka, ca, kb, cb, n) => shiftedOf_M ka ca kb cb n
theorem m_27_ok {ds : List D} {r : D} (h : m_27 ds = some r) : Con 27 ds r := by
  unfold m_27 at h
  obtain ⟨⟨ka, ca, kb, cb, n⟩, e0, h0⟩ := pullD_elim h
  obtain rfl := tup_inj e0
  exact shiftedOf_M_ok ka ca kb cb n h0
theorem m_27_eq (ka : Nat) (ca : List D) (kb : Nat) (cb : List D) (n : Int) : m_27 [.agg [.list ka ca, .list kb cb], iD n] = shiftedOf_M ka ca kb cb n := pullD_some (ka, ca, kb, cb, n) rfl rfl
def mirrored_x58_1_0 : LExit := ⟨some 0, [.made 0], (2 :: (3 :: (List.range' 7 21)))⟩
def mirrored_sp : List LSpec := [⟨58, 1, [mirrored_x58_1_0]⟩]
def mirrored_L58_1_1_E (ka : Nat) (ca : List D) (kb : Nat) (cb : List D) (x0 : List D) : List AV × AHeap := ([.bslx 7 0 (0 + kb) 0, .pure (.tuple #[]), .pure (.int .i64 (0 : Int)), .pure (.int .i64 (IntKind.i64.wrap ((((0 + kb) : Nat) : Int) - (1 : Int)))), .bslx 7 0 (0 + kb) 0, .pure (.int .i64 (((0 + kb) : Nat) : Int)), .pure (.int .i64 (IntKind.i64.wrap ((((0 + kb) : Nat) : Int) - (1 : Int)))), .pure (.tuple #[]), .pure (.tuple #[]), .pure (.tuple #[]), .pure (.tuple #[]), .pure (.tuple #[]), .pure (.tuple #[]), .pure (.tuple #[]), .pure (.tuple #[]), .pure (.tuple #[]), .pure (.tuple #[]), .pure (.tuple #[]), .pure (.tuple #[]), .pure (.tuple #[]), .pure (.tuple #[]), .pure (.tuple #[]), .pure (.tuple #[]), .pure (.tuple #[]), .pure (.tuple #[]), .pure (.tuple #[]), .pure (.tuple #[]), .pure (.tuple #[])], [(5, { cells := [], opn := some 1, kind := .big x0 }), (7, { cells := [], opn := some 1, kind := .big cb }), (8, { cells := [.bslx 5 0 (0 + ka) 0, .bslx 7 0 (0 + kb) 0], opn := none, kind := .cells }), (3, { cells := [.pure (.slice none 0 0), .pure (.slice none 0 0)], opn := none, kind := .cells }), (2, { cells := [.dsl 0, .dsl 1], opn := none, kind := .cells }), (1, { cells := [], opn := none, kind := .deep kb cb }), (0, { cells := [], opn := none, kind := .deep ka ca })])
def mirrored_L58_1_1_A : LoopAt := ⟨58, loopAt Try.prog 58 0, 33, 57, 7, noFrame⟩
theorem mirrored_L58_1_1_ok : (mirrored_L58_1_1_A).OK := ⟨by show 33 ≤ 57; decide, by show 7 ≤ 33; decide, by kernel_rfl, rfl⟩
def mirrored_L58_1_1_gs (ka : Nat) (ca : List D) (kb : Nat) (cb : List D) (x0 : List D) : Go.Ev.Rd → Option GS
  | .next 0 ds => ghost [.val 2, .val 3, .made 0] (List.range' 7 21) (mirrored_L58_1_1_E ka ca kb cb x0).1 (mirrored_L58_1_1_E ka ca kb cb x0).2 33 ds
  | .out 0 ds => ghost mirrored_x58_1_0.live mirrored_x58_1_0.junk (mirrored_L58_1_1_E ka ca kb cb x0).1 (mirrored_L58_1_1_E ka ca kb cb x0).2 33 ds
  | _ => none
def mirrored_L58_1_1_ex : Nat → Option Nat
  | 0 => mirrored_x58_1_0.ex
  | _ => none
def mirrored_L58_1_1_ax : Go.Ev.Rd → AX
  | .next _ _ => .normal
  | .out j _ => axOf (mirrored_L58_1_1_ex j)
def mirrored_L58_1_1_S0 (ka : Nat) (ca : List D) (kb : Nat) (cb : List D) (x0 : List D) (ds : List D) : Option Go.Ev.Rd := pullD (α := Int × Int × Nat × (List D)) (some (.tup ds)) (fun d => ((D.vi (D.at d 0)), (D.vi (D.at d 1)), (D.ln (D.at d 2)), (D.lc (D.at d 2)))) (fun (s2, s3, s0n, s0c) => .tup [iD s2, iD s3, .list s0n s0c]) fun (s2, s3, s0n, s0c) => ((if s2 < s3 then guardP ((0 : Int) ≤ s3 ∧ s3.toNat < 0 + kb) (pullD (α := Int) (readD s0c (0 + s3.toNat * 1) 1 false) (fun d => ((D.vi d))) (fun v0 => iD v0) fun v0 => (guardP ((0 : Int) ≤ s2 ∧ s2.toNat < 0 + kb) (pullD (α := Int) (readD s0c (0 + s2.toNat * 1) 1 false) (fun d => ((D.vi d))) (fun v1 => iD v1) fun v1 => (guardP (0 + s2.toNat * 1 + 1 ≤ s0c.length ∧ ∀ (u : D), u ∈ [dCell (.int .i64 v0)] → cellD u) (guardP (0 + s3.toNat * 1 + 1 ≤ (splice s0c (0 + s2.toNat * 1) [dCell (.int .i64 v0)]).length ∧ ∀ (u : D), u ∈ [dCell (.int .i64 v1)] → cellD u) (some (.next 0 [iD (IntKind.i64.wrap (s2 + (1 : Int))), iD (IntKind.i64.wrap (s3 - (1 : Int))), .list (0 + kb) (List.append (List.take (0 + s3.toNat * 1) (splice s0c (0 + s2.toNat * 1) [dCell (.int .i64 v0)]) ++ [dCell (.int .i64 v1)]) (List.drop (0 + s3.toNat * 1 + [dCell (.int .i64 v1)].length) (splice s0c (0 + s2.toNat * 1) [dCell (.int .i64 v0)])))]))))))) else some (.out 0 [.list (0 + kb) s0c])))
def mirrored_L58_1_1_S (ka : Nat) (ca : List D) (kb : Nat) (cb : List D) (x0 : List D) : Go.Ev.Rd → Option Go.Ev.Rd
  | .next 0 ds => mirrored_L58_1_1_S0 ka ca kb cb x0 ds
  | _ => none
theorem mirrored_L58_1_1_S_ok (ka : Nat) (ca : List D) (kb : Nat) (cb : List D) (x0 : List D) : ∀ s_ t_, mirrored_L58_1_1_S ka ca kb cb x0 s_ = some t_ → Step (ctx [28, 57, 58] mirrored_sp) Tabs mirrored_L58_1_1_A (stateOf (mirrored_L58_1_1_gs ka ca kb cb x0 s_)) (stateOf (mirrored_L58_1_1_gs ka ca kb cb x0 t_)) (mirrored_L58_1_1_ax t_) ∧ EndOK mirrored_L58_1_1_A.nx mirrored_L58_1_1_A.low (mirrored_L58_1_1_gs ka ca kb cb x0) t_
  | .next 0 ds, t_, h => by
    have h_ : mirrored_L58_1_1_S0 ka ca kb cb x0 ds = some t_ := h
    clear h
    unfold mirrored_L58_1_1_S0 at h_
    obtain ⟨⟨s2, s3, s0n, s0c⟩, e0, h0⟩ := pullD_elim h_
    clear h_
    obtain rfl := tup_inj e0
    by_cases b1_ : s2 < s3
    · have h2_ := (if_pos b1_).symm.trans h0
      obtain ⟨f3_, h4_⟩ := guardP_elim h2_
      obtain ⟨v0, f5_, h6_⟩ := pullD_elim h4_
      replace f5_ := readD_elim f5_
      obtain ⟨f7_, h8_⟩ := guardP_elim h6_
      obtain ⟨v1, f9_, h10_⟩ := pullD_elim h8_
      replace f9_ := readD_elim f9_
      obtain ⟨f11_, h12_⟩ := guardP_elim h10_
      obtain ⟨f13_, h14_⟩ := guardP_elim h12_
      obtain rfl := Option.some.inj h14_
      exact ⟨step_pc 3000 (bT 1 []) [iD v0, iD v1] [c_d b1_, c_f f3_, c_f f5_, c_f f7_, c_f f9_, c_f f7_, c_f f11_, c_f f3_, c_f f13_] [] _ rfl (by kernel_rfl) (by kernel_rfl) (by kernel_rfl) (by kernel_rfl) (by kernel_rfl) (by kernel_rfl), trivial⟩
    have h2_ := (if_neg b1_).symm.trans h0
    obtain rfl := Option.some.inj h2_
    exact ⟨step_pc 3000 (bF 1 []) [] [c_n b1_] [] _ rfl (by kernel_rfl) (by kernel_rfl) (by kernel_rfl) (by kernel_rfl) (by kernel_rfl) (by kernel_rfl), by kernel_rfl, by kernel_rfl⟩
  | .next (_ + 1) _, _, h => by cases h
  | .out _ _, _, h => by cases h
theorem mirrored_L58_1_1_go (ka : Nat) (ca : List D) (kb : Nat) (cb : List D) (x0 : List D) {q : Nat} {ds : List D} {j : Nat} {es : List D} (h : runR (mirrored_L58_1_1_S ka ca kb cb x0) (.next q ds) = some (.out j es)) : Runs (ctx [28, 57, 58] mirrored_sp) Tabs mirrored_L58_1_1_A (stateOf (mirrored_L58_1_1_gs ka ca kb cb x0 (.next q ds))) (stateOf (mirrored_L58_1_1_gs ka ca kb cb x0 (.out j es))) (mirrored_L58_1_1_ax (.out j es)) ∧ (nxtOf (mirrored_L58_1_1_gs ka ca kb cb x0 (.out j es)), lowGS (mirrored_L58_1_1_gs ka ca kb cb x0 (.out j es))) = (mirrored_L58_1_1_A.nx, mirrored_L58_1_1_A.low) :=
  runs_of' (good true _ _) mirrored_L58_1_1_ok (ax := mirrored_L58_1_1_ax) (fun _ _ => rfl) (fun _ _ => axOf_end _) (mirrored_L58_1_1_S_ok ka ca kb cb x0) h
theorem mirrored_L58_1_1_in0 (ka : Nat) (ca : List D) (kb : Nat) (cb : List D) (x0 : List D) {es : List D} (h : runR (mirrored_L58_1_1_S ka ca kb cb x0) (.next 0 [iD ((0 : Int)), iD ((IntKind.i64.wrap ((((0 + kb) : Nat) : Int) - (1 : Int)))), .list ((0 + kb)) (cb)]) = some (.out 0 es)) : LoopC (loopAt Try.prog 58 0) (mirrored_L58_1_1_E ka ca kb cb x0) 33 noFrame mirrored_x58_1_0 es :=
  have r := mirrored_L58_1_1_go ka ca kb cb x0 h
  loopin_as rfl (loop_in (l := mirrored_L58_1_1_A) (E := (mirrored_L58_1_1_E ka ca kb cb x0)) (S := stateOf (mirrored_L58_1_1_gs ka ca kb cb x0 (.next 0 [iD ((0 : Int)), iD ((IntKind.i64.wrap ((((0 + kb) : Nat) : Int) - (1 : Int)))), .list ((0 + kb)) (cb)]))) (ns := nsOf (mirrored_L58_1_1_gs ka ca kb cb x0 (.next 0 [iD ((0 : Int)), iD ((IntKind.i64.wrap ((((0 + kb) : Nat) : Int) - (1 : Int)))), .list ((0 + kb)) (cb)]))) mirrored_L58_1_1_ok r.1 r.2 (by kernel_rfl) (by kernel_rfl) (by kernel_rfl) (by kernel_rfl))
def mirrored_L58_1_E (ka : Nat) (ca : List D) (kb : Nat) (cb : List D)  : List AV × AHeap := ([.bslx 5 0 (0 + ka) 0, .pure (.tuple #[]), .pure (.int .i64 (0 : Int)), .pure (.int .i64 (IntKind.i64.wrap ((((0 + ka) : Nat) : Int) - (1 : Int)))), .bslx 5 0 (0 + ka) 0, .pure (.int .i64 (((0 + ka) : Nat) : Int)), .pure (.int .i64 (IntKind.i64.wrap ((((0 + ka) : Nat) : Int) - (1 : Int)))), .pure (.tuple #[]), .pure (.tuple #[]), .pure (.tuple #[]), .pure (.tuple #[]), .pure (.tuple #[]), .pure (.tuple #[]), .pure (.tuple #[]), .pure (.tuple #[]), .pure (.tuple #[]), .pure (.tuple #[]), .pure (.tuple #[]), .pure (.tuple #[]), .pure (.tuple #[]), .pure (.tuple #[]), .pure (.tuple #[]), .pure (.tuple #[]), .pure (.tuple #[]), .pure (.tuple #[]), .pure (.tuple #[]), .pure (.tuple #[]), .pure (.tuple #[])], [(5, { cells := [], opn := some 1, kind := .big ca }), (7, { cells := [], opn := some 1, kind := .big cb }), (8, { cells := [.bslx 5 0 (0 + ka) 0, .bslx 7 0 (0 + kb) 0], opn := none, kind := .cells }), (3, { cells := [.pure (.slice none 0 0), .pure (.slice none 0 0)], opn := none, kind := .cells }), (2, { cells := [.dsl 0, .dsl 1], opn := none, kind := .cells }), (1, { cells := [], opn := none, kind := .deep kb cb }), (0, { cells := [], opn := none, kind := .deep ka ca })])
def mirrored_L58_1_A : LoopAt := ⟨58, loopAt Try.prog 58 0, 9, 33, 5, noFrame⟩
theorem mirrored_L58_1_ok : (mirrored_L58_1_A).OK := ⟨by show 9 ≤ 33; decide, by show 5 ≤ 9; decide, by kernel_rfl, rfl⟩
def mirrored_L58_1_gs (ka : Nat) (ca : List D) (kb : Nat) (cb : List D)  : Go.Ev.Rd → Option GS
  | .next 0 ds => ghost [.val 2, .val 3, .made 0] (List.range' 7 21) (mirrored_L58_1_E ka ca kb cb).1 (mirrored_L58_1_E ka ca kb cb).2 9 ds
  | .out 0 ds => ghost mirrored_x58_1_0.live mirrored_x58_1_0.junk (mirrored_L58_1_E ka ca kb cb).1 (mirrored_L58_1_E ka ca kb cb).2 9 ds
  | _ => none
def mirrored_L58_1_ex : Nat → Option Nat
  | 0 => mirrored_x58_1_0.ex
  | _ => none
def mirrored_L58_1_ax : Go.Ev.Rd → AX
  | .next _ _ => .normal
  | .out j _ => axOf (mirrored_L58_1_ex j)
def mirrored_L58_1_S0 (ka : Nat) (ca : List D) (kb : Nat) (cb : List D)  (ds : List D) : Option Go.Ev.Rd := pullD (α := Int × Int × Nat × (List D)) (some (.tup ds)) (fun d => ((D.vi (D.at d 0)), (D.vi (D.at d 1)), (D.ln (D.at d 2)), (D.lc (D.at d 2)))) (fun (s2, s3, s0n, s0c) => .tup [iD s2, iD s3, .list s0n s0c]) fun (s2, s3, s0n, s0c) => ((if s2 < s3 then guardP ((0 : Int) ≤ s3 ∧ s3.toNat < 0 + ka) (pullD (α := Int) (readD s0c (0 + s3.toNat * 1) 1 false) (fun d => ((D.vi d))) (fun v0 => iD v0) fun v0 => (guardP ((0 : Int) ≤ s2 ∧ s2.toNat < 0 + ka) (pullD (α := Int) (readD s0c (0 + s2.toNat * 1) 1 false) (fun d => ((D.vi d))) (fun v1 => iD v1) fun v1 => (guardP (0 + s2.toNat * 1 + 1 ≤ s0c.length ∧ ∀ (u : D), u ∈ [dCell (.int .i64 v0)] → cellD u) (guardP (0 + s3.toNat * 1 + 1 ≤ (splice s0c (0 + s2.toNat * 1) [dCell (.int .i64 v0)]).length ∧ ∀ (u : D), u ∈ [dCell (.int .i64 v1)] → cellD u) (some (.next 0 [iD (IntKind.i64.wrap (s2 + (1 : Int))), iD (IntKind.i64.wrap (s3 - (1 : Int))), .list (0 + ka) (List.append (List.take (0 + s3.toNat * 1) (splice s0c (0 + s2.toNat * 1) [dCell (.int .i64 v0)]) ++ [dCell (.int .i64 v1)]) (List.drop (0 + s3.toNat * 1 + [dCell (.int .i64 v1)].length) (splice s0c (0 + s2.toNat * 1) [dCell (.int .i64 v0)])))]))))))) else some (.out 0 [.list (0 + ka) s0c])))
def mirrored_L58_1_S (ka : Nat) (ca : List D) (kb : Nat) (cb : List D)  : Go.Ev.Rd → Option Go.Ev.Rd
  | .next 0 ds => mirrored_L58_1_S0 ka ca kb cb ds
  | _ => none
theorem mirrored_L58_1_S_ok (ka : Nat) (ca : List D) (kb : Nat) (cb : List D)  : ∀ s_ t_, mirrored_L58_1_S ka ca kb cb s_ = some t_ → Step (ctx [28, 57, 58] mirrored_sp) Tabs mirrored_L58_1_A (stateOf (mirrored_L58_1_gs ka ca kb cb s_)) (stateOf (mirrored_L58_1_gs ka ca kb cb t_)) (mirrored_L58_1_ax t_) ∧ EndOK mirrored_L58_1_A.nx mirrored_L58_1_A.low (mirrored_L58_1_gs ka ca kb cb) t_
  | .next 0 ds, t_, h => by
    have h_ : mirrored_L58_1_S0 ka ca kb cb ds = some t_ := h
    clear h
    unfold mirrored_L58_1_S0 at h_
    obtain ⟨⟨s2, s3, s0n, s0c⟩, e0, h0⟩ := pullD_elim h_
    clear h_
    obtain rfl := tup_inj e0
    by_cases b1_ : s2 < s3
    · have h2_ := (if_pos b1_).symm.trans h0
      obtain ⟨f3_, h4_⟩ := guardP_elim h2_
      obtain ⟨v0, f5_, h6_⟩ := pullD_elim h4_
      replace f5_ := readD_elim f5_
      obtain ⟨f7_, h8_⟩ := guardP_elim h6_
      obtain ⟨v1, f9_, h10_⟩ := pullD_elim h8_
      replace f9_ := readD_elim f9_
      obtain ⟨f11_, h12_⟩ := guardP_elim h10_
      obtain ⟨f13_, h14_⟩ := guardP_elim h12_
      obtain rfl := Option.some.inj h14_
      exact ⟨step_pc 3000 (bT 1 []) [iD v0, iD v1] [c_d b1_, c_f f3_, c_f f5_, c_f f7_, c_f f9_, c_f f7_, c_f f11_, c_f f3_, c_f f13_] [] _ rfl (by kernel_rfl) (by kernel_rfl) (by kernel_rfl) (by kernel_rfl) (by kernel_rfl) (by kernel_rfl), trivial⟩
    have h2_ := (if_neg b1_).symm.trans h0
    obtain rfl := Option.some.inj h2_
    exact ⟨step_pc 3000 (bF 1 []) [] [c_n b1_] [] _ rfl (by kernel_rfl) (by kernel_rfl) (by kernel_rfl) (by kernel_rfl) (by kernel_rfl) (by kernel_rfl), by kernel_rfl, by kernel_rfl⟩
  | .next (_ + 1) _, _, h => by cases h
  | .out _ _, _, h => by cases h
theorem mirrored_L58_1_go (ka : Nat) (ca : List D) (kb : Nat) (cb : List D)  {q : Nat} {ds : List D} {j : Nat} {es : List D} (h : runR (mirrored_L58_1_S ka ca kb cb) (.next q ds) = some (.out j es)) : Runs (ctx [28, 57, 58] mirrored_sp) Tabs mirrored_L58_1_A (stateOf (mirrored_L58_1_gs ka ca kb cb (.next q ds))) (stateOf (mirrored_L58_1_gs ka ca kb cb (.out j es))) (mirrored_L58_1_ax (.out j es)) ∧ (nxtOf (mirrored_L58_1_gs ka ca kb cb (.out j es)), lowGS (mirrored_L58_1_gs ka ca kb cb (.out j es))) = (mirrored_L58_1_A.nx, mirrored_L58_1_A.low) :=
  runs_of' (good true _ _) mirrored_L58_1_ok (ax := mirrored_L58_1_ax) (fun _ _ => rfl) (fun _ _ => axOf_end _) (mirrored_L58_1_S_ok ka ca kb cb) h
theorem mirrored_L58_1_in0 (ka : Nat) (ca : List D) (kb : Nat) (cb : List D)  {es : List D} (h : runR (mirrored_L58_1_S ka ca kb cb) (.next 0 [iD ((0 : Int)), iD ((IntKind.i64.wrap ((((0 + ka) : Nat) : Int) - (1 : Int)))), .list ((0 + ka)) (ca)]) = some (.out 0 es)) : LoopC (loopAt Try.prog 58 0) (mirrored_L58_1_E ka ca kb cb) 9 noFrame mirrored_x58_1_0 es :=
  have r := mirrored_L58_1_go ka ca kb cb h
  loopin_as rfl (loop_in (l := mirrored_L58_1_A) (E := (mirrored_L58_1_E ka ca kb cb)) (S := stateOf (mirrored_L58_1_gs ka ca kb cb (.next 0 [iD ((0 : Int)), iD ((IntKind.i64.wrap ((((0 + ka) : Nat) : Int) - (1 : Int)))), .list ((0 + ka)) (ca)]))) (ns := nsOf (mirrored_L58_1_gs ka ca kb cb (.next 0 [iD ((0 : Int)), iD ((IntKind.i64.wrap ((((0 + ka) : Nat) : Int) - (1 : Int)))), .list ((0 + ka)) (ca)]))) mirrored_L58_1_ok r.1 r.2 (by kernel_rfl) (by kernel_rfl) (by kernel_rfl) (by kernel_rfl))
def mirrored_M (ka : Nat) (ca : List D) (kb : Nat) (cb : List D) : Option D := pullD (α := Int) (m_17 [.agg [.list ka ca, .list kb cb]]) (fun d => ((D.vi d))) (fun r0 => iD r0) fun r0 => ((if r0 ≠ (0 : Int) then some (.tup [.agg [.list 0 [], .list 0 []], iD r0]) else guardP (0 < ka) (guardP ((∀ (u : D), u ∈ ca → cellD u) ∧ 0 ≤ 0 ∧ (0 + ka) * 8 ≤ 140737488355328 ∧ 0 + ka ≤ 4611686018427387904) (guardP (ca.length = ka * 1) (guardP (0 < kb) (guardP ((∀ (u : D), u ∈ cb → cellD u) ∧ 0 ≤ 0 ∧ (0 + kb) * 8 ≤ 140737488355328 ∧ 0 + kb ≤ 4611686018427387904) (guardP (cb.length = kb * 1) (bindL (runR (mirrored_L58_1_S ka ca kb cb) (.next 0 [iD ((0 : Int)), iD ((IntKind.i64.wrap ((((0 + ka) : Nat) : Int) - (1 : Int)))), .list ((0 + ka)) (ca)])) fun j ds => (if j = 0 then pullD (α := Nat × (List D)) (some (.tup ds)) (fun d => ((D.ln (D.at d 0)), (D.lc (D.at d 0)))) (fun (k1, c2) => .tup [.list k1 c2]) fun (k1, c2) => (guardP ((0 + (0 + ka)) * 1 ≤ c2.length ∧ 0 < 1) (bindL (runR (mirrored_L58_1_1_S ka ca kb cb c2) (.next 0 [iD ((0 : Int)), iD ((IntKind.i64.wrap ((((0 + kb) : Nat) : Int) - (1 : Int)))), .list ((0 + kb)) (cb)])) fun j ds => (if j = 0 then pullD (α := Nat × (List D)) (some (.tup ds)) (fun d => ((D.ln (D.at d 0)), (D.lc (D.at d 0)))) (fun (k3, c4) => .tup [.list k3 c4]) fun (k3, c4) => (guardP ((0 + (0 + kb)) * 1 ≤ c4.length ∧ 0 < 1) (some (.tup [.agg [.list (0 + ka) c2, .list (0 + kb) c4], iD (0 : Int)]))) else none))) else none)))))))))
theorem mirrored_M_ok (ka : Nat) (ca : List D) (kb : Nat) (cb : List D) {r : D} (h : mirrored_M ka ca kb cb = some r) : Con 28 [.agg [.list ka ca, .list kb cb]] r := by
  unfold mirrored_M at h
  obtain ⟨r0, f1_, h2_⟩ := pullD_elim h
  replace f1_ := m_17_ok f1_
  by_cases b3_ : r0 ≠ (0 : Int)
  · have h4_ := (if_pos b3_).symm.trans h2_
    obtain rfl := Option.some.inj h4_
    exact con_pc (op := true) (I := [28, 57, 58]) (sp := mirrored_sp) 3000 (bT 1 []) [iD r0] [c_b b3_] [k_c f1_] (by kernel_rfl)
  have h4_ := (if_neg b3_).symm.trans h2_
  have b5_ : r0 = (0 : Int) := by first | exact b3_ | simpa using b3_
  obtain ⟨f6_, h7_⟩ := guardP_elim h4_
  obtain ⟨f8_, h9_⟩ := guardP_elim h7_
  obtain ⟨f10_, h11_⟩ := guardP_elim h9_
  obtain ⟨f12_, h13_⟩ := guardP_elim h11_
  obtain ⟨f14_, h15_⟩ := guardP_elim h13_
  obtain ⟨f16_, h17_⟩ := guardP_elim h15_
  obtain ⟨j, ds, e18_, h19_⟩ := bindL_elim h17_
  by_cases j20_ : j = 0
  · have h23_ := (if_pos j20_).symm.trans h19_
    clear h19_
    subst j20_
    obtain ⟨⟨k1, c2⟩, e21_, h24_⟩ := pullD_elim h23_
    clear h23_
    obtain rfl := tup_inj e21_
    have k22_ := mirrored_L58_1_in0 ka ca kb cb e18_
    obtain ⟨f25_, h26_⟩ := guardP_elim h24_
    obtain ⟨j, ds, e27_, h28_⟩ := bindL_elim h26_
    by_cases j29_ : j = 0
    · have h32_ := (if_pos j29_).symm.trans h28_
      clear h28_
      subst j29_
      obtain ⟨⟨k3, c4⟩, e30_, h33_⟩ := pullD_elim h32_
      clear h32_
      obtain rfl := tup_inj e30_
      have k31_ := mirrored_L58_1_1_in0 ka ca kb cb c2 e27_
      obtain ⟨f34_, h35_⟩ := guardP_elim h33_
      obtain rfl := Option.some.inj h35_
      exact con_pc (op := true) (I := [28, 57, 58]) (sp := mirrored_sp) 3000 (bF 3 []) [iD r0, .tup [iD (Int.ofNat 0), .list k1 c2], .tup [iD (Int.ofNat 0), .list k3 c4]] [c_bn b5_, c_f f6_, c_F, c_f f8_, c_f f10_, c_f f12_, c_F, c_f f14_, c_f f16_, c_f f25_, c_f f34_] [k_c f1_, k_l k22_ [] [.tup [iD (Int.ofNat 0), .list k1 c2], .tup [iD (Int.ofNat 0), .list k3 c4]] [.tup [iD (Int.ofNat 0), .list k3 c4]], k_l k31_ [] [.tup [iD (Int.ofNat 0), .list k3 c4]] []] (by kernel_rfl)
    have h36_ := (if_neg j29_).symm.trans h28_
    clear h28_
    cases h36_
  have h37_ := (if_neg j20_).symm.trans h19_
  clear h19_
  cases h37_
def m_28 (ds : List D) : Option D := pullD (α := Nat × (List D) × Nat × (List D)) (some (.tup ds)) (fun d => ((D.ln (D.at (D.at d 0) 0)), (D.lc (D.at (D.at d 0) 0)), (D.ln (D.at (D.at d 0) 1)), (D.lc (D.at (D.at d 0) 1)))) (fun (ka, ca, kb, cb) => .tup [.agg [.list ka ca, .list kb cb]]) fun (ka, ca, kb, cb) => mirrored_M ka ca kb cb
theorem m_28_ok {ds : List D} {r : D} (h : m_28 ds = some r) : Con 28 ds r := by
  unfold m_28 at h
  obtain ⟨⟨ka, ca, kb, cb⟩, e0, h0⟩ := pullD_elim h
  obtain rfl := tup_inj e0
  exact mirrored_M_ok ka ca kb cb h0
theorem m_28_eq (ka : Nat) (ca : List D) (kb : Nat) (cb : List D) : m_28 [.agg [.list ka ca, .list kb cb]] = mirrored_M ka ca kb cb := pullD_some (ka, ca, kb, cb) rfl rfl
end
end Go.Proofs.Ytbfefnfmdkgfjaa
/- The stage's examples hold. -/
namespace Go.Proofs.Ytbfefnfmdkgfjaa
open Go.Ev Go.RowKit
set_option maxRecDepth 100000
noncomputable section
theorem aw_all : Con 8 [] (.one (.bool true)) :=
  con_ofK (S := [(44, 3000041)]) (K := []) (sp := []) (n := 60000) (ora := []) (res := []) (conds := [(false, false), (false, false), (false, false), (false, false), (false, false), (false, false), (false, false), (false, false), (false, false), (false, false), (false, false), (false, false), (false, false), (false, false), (false, false), (false, false), (false, false), (false, false), (false, false), (false, false), (false, false), (false, false)]) (cls := [])
    (by kernel_rfl) ⟨rfl, rfl, rfl, rfl, rfl, rfl, rfl, rfl, rfl, rfl, rfl, rfl, rfl, rfl, rfl, rfl, rfl, rfl, rfl, rfl, rfl, rfl, trivial⟩ trivial
def m_8 (ds : List D) : Option D := pullD (some (.tup ds)) (fun _ => ()) (fun _ => .tup []) fun _ => some (.one (.bool true))
theorem m_8_ok {ds : List D} {r : D} (h : m_8 ds = some r) : Con 8 ds r := by
  unfold m_8 at h
  obtain ⟨⟨⟩, e0, h0⟩ := pullD_elim h
  obtain rfl := tup_inj e0
  obtain rfl := Option.some.inj h0
  exact aw_all
theorem m_8_eq : m_8 [] = some (.one (.bool true)) := pullD_some () rfl rfl
end
end Go.Proofs.Ytbfefnfmdkgfjaa
namespace Go.Proofs.Ytbfefnfmdkgfjaa
open Go.Ev Go.RowKit
set_option maxRecDepth 100000
set_option maxHeartbeats 8000000
set_option linter.all false
noncomputable section
end
end Go.Proofs.Ytbfefnfmdkgfjaa
/- Windows upside down, and shifted: the law. -/
namespace Go.Proofs.Ytbfefnfmdkgfjaa
open Go.Ev Go.RowKit
set_option maxRecDepth 100000
noncomputable section
end
section
variable {a b : List Int}
/-! The opposite order; levels of 0 below and above. -/
def mir (l : List Int) : List Int := tab l.length fun j => at' l (l.length - 1 - j)
def pad (l : List Int) (x y : Nat) : List Int := tab (x + l.length + y) fun j => if x ≤ j ∧ j < x + l.length then at' l (j - x) else 0
theorem mir_len (l : List Int) : (mir l).length = l.length := tab_len _ _
theorem pad_len (l : List Int) (x y : Nat) : (pad l x y).length = x + l.length + y := tab_len _ _
/-! The program. -/
theorem ints_same (l : List Int) (hl : l.length ≤ 1000) : m_19 [lD l, lD l] = some (.one (.bool true)) := by
  rw [m_19_eq]
  unfold ints_M
  rw [if_neg (by simp)]
  have h1 : runR (ints_L4_S l.length (l.map iD) l.length (l.map iD)) (.next 0 [iD 0]) = _ := runR_scan (S := ints_L4_S l.length (l.map iD) l.length (l.map iD)) (fun _ => 0) (fun i => [iD (i : Int)]) (Nat.zero_le l.length) (fun i _ hi => by
    show ints_L4_S0 l.length (l.map iD) l.length (l.map iD) _ = _
    unfold ints_L4_S0
    rw [pullD_some (i : Int) (by rfl) (by rfl), if_pos (by omega), guardP_pos (by omega), readA hi, pullD_some (at' l i) (by rfl) (by rfl), guardP_pos (by omega), pullD_some (at' l i) (by rfl) (by rfl), if_neg (by simp), natI (by omega)])
  have h2 : runR (ints_L4_S l.length (l.map iD) l.length (l.map iD)) (.next 0 [iD (l.length : Int)]) = some (.out 0 []) := runR_exit (by
    show ints_L4_S0 l.length (l.map iD) l.length (l.map iD) _ = _
    unfold ints_L4_S0
    rw [pullD_some (l.length : Int) (by rfl) (by rfl), if_neg (by omega)])
  rw [bindL_some (h1.trans h2), if_pos rfl, pullD_some () (by rfl) (by rfl)]
theorem same_eq (a b : List Int) (ha : a.length ≤ 1000) (hb : b.length ≤ 1000) : m_30 [wnD a b, wnD a b] = some (.one (.bool true)) := by
  rw [m_30_eq]
  unfold same_M
  rw [show [D.list a.length (a.map iD), D.list a.length (a.map iD)] = [lD a, lD a] from rfl, ints_same a ha, pullB, if_pos rfl, show [D.list b.length (b.map iD), D.list b.length (b.map iD)] = [lD b, lD b] from rfl, ints_same b hb, pullB]
theorem zerosD (n : Nat) : manyZeros (Value.int .i64 (0 : Int)).cells.toList n = (tab n fun _ => 0).map iD := by
  unfold manyZeros
  rw [zeros_list, tab_zeros]
theorem padded_eq (l : List Int) (hp : 0 < l.length) (hl : l.length ≤ 1000) {x y : Nat} (hx : x ≤ 1000) (hy : y ≤ 1000) : m_70 [lD l, iD (x : Int), iD (y : Int)] = some (lD (pad l x y)) := by
  rw [m_70_eq]
  unfold padded_M
  have e : IntKind.i64.wrap (IntKind.i64.wrap ((x : Int) + (l.length : Int)) + (y : Int)) = ((x + l.length + y : Nat) : Int) := by
    rw [wrapJ ((x : Int) + (l.length : Int)) (by omega) (by omega), wrapJ _ (by omega) (by omega)]; omega
  simp only [e, Int.toNat_natCast]
  rw [zerosD, guardP_pos ⟨by omega, by omega, by omega, by omega⟩, guardP_pos ⟨by omega, by omega, by omega, by omega⟩, guardP_pos ⟨by omega, by simp only [List.length_map, tab_len]; omega, cells_int l⟩, guardP_pos (by simp), guardP_pos (Nat.le_refl _)]
  have e2 : List.append (List.take (0 + x * 1) ((tab (x + l.length + y) fun _ => 0).map iD) ++ l.map iD) (List.drop (0 + x * 1 + (l.map iD).length) ((tab (x + l.length + y) fun _ => 0).map iD)) = (pad l x y).map iD := by
    show List.take (0 + x * 1) ((tab (x + l.length + y) fun _ => 0).map iD) ++ l.map iD ++ List.drop (0 + x * 1 + (l.map iD).length) ((tab (x + l.length + y) fun _ => 0).map iD) = _
    rw [Nat.zero_add, Nat.mul_one, List.length_map, ← List.map_take, ← List.map_drop, ← List.map_append, ← List.map_append]
    congr 1
    apply List.ext_getElem?
    intro i
    by_cases h1 : i < x
    · rw [List.append_assoc, List.getElem?_append_left (by rw [List.length_take, tab_len]; omega), List.getElem?_take, if_pos h1, tab_get _ (by omega)]
      unfold pad
      rw [tab_get _ (by omega), if_neg (by omega)]
    · by_cases h2 : i < x + l.length
      · rw [List.append_assoc, List.getElem?_append_right (by rw [List.length_take, tab_len]; omega), List.getElem?_append_left (by rw [List.length_take, tab_len]; omega), List.length_take, tab_len, show min x (x + l.length + y) = x by omega, at_get (by omega)]
        unfold pad
        rw [tab_get _ (by omega), if_pos (by omega)]
      · rw [List.getElem?_append_right (by rw [List.length_append, List.length_take, tab_len]; omega), List.length_append, List.length_take, tab_len, List.getElem?_drop, show x + l.length + (i - (min x (x + l.length + y) + l.length)) = i by omega]
        unfold pad
        by_cases h3 : i < x + l.length + y
        · rw [tab_get _ h3, tab_get _ h3, if_neg (by omega)]
        · rw [List.getElem?_eq_none (by rw [tab_len]; omega), List.getElem?_eq_none (by rw [tab_len]; omega)]
  rw [e2]
  simp only [lD, pad_len]
theorem shifted_eq (h : Win a b) {n : Int} (h1 : -3 ≤ n) (h2 : n ≤ 3) : m_56 [wnD a b, iD n] = some (wnD (pad a (-n).toNat n.toNat) (pad b n.toNat (-n).toNat)) := by
  have hp := h.pos
  have hle := h.le
  have hlen := h.len
  rw [m_56_eq]
  unfold shifted_M
  have e1 : IntKind.i64.wrap (0 - n) = -n := by rw [Int.zero_sub]; exact wrapJ _ (by omega) (by omega)
  have e2 : (if (0 : Int) > -n then (0 : Int) else -n) = ((-n).toNat : Int) := by split <;> omega
  have e3 : (if (0 : Int) > n then (0 : Int) else n) = (n.toNat : Int) := by split <;> omega
  rw [e1, e2, e3, show [D.list a.length (a.map iD), iD ((-n).toNat : Int), iD (n.toNat : Int)] = [lD a, iD ((-n).toNat : Int), iD (n.toNat : Int)] from rfl, padded_eq a hp (by omega) (by omega) (by omega), pullD_some ((pad a (-n).toNat n.toNat).length, (pad a (-n).toNat n.toNat).map iD) (by rfl) (by rfl)]
  dsimp only
  rw [show [D.list b.length (b.map iD), iD (n.toNat : Int), iD ((-n).toNat : Int)] = [lD b, iD (n.toNat : Int), iD ((-n).toNat : Int)] from rfl, padded_eq b (by omega) (by omega) (by omega) (by omega), pullD_some ((pad b n.toNat (-n).toNat).length, (pad b n.toNat (-n).toNat).map iD) (by rfl) (by rfl)]
theorem shiftedOf_eq (h : Win a b) {n : Int} (h1 : -3 ≤ n) (h2 : n ≤ 3) (h3 : (-n).toNat + a.length + n.toNat ≤ 15) : m_27 [wnD a b, iD n] = some (.tup [wnD (pad a (-n).toNat n.toNat) (pad b n.toNat (-n).toNat), iD 0]) := by
  rw [m_27_eq]
  unfold shiftedOf_M
  rw [show [D.agg [D.list a.length (a.map iD), D.list b.length (b.map iD)]] = [wnD a b] from rfl, chkd_eq h, pullD_some (a.length, a.map iD, b.length, b.map iD, 0) (by rfl) (by rfl)]
  dsimp only
  rw [if_neg (by rw [show IntKind.i64.wrap (0 - 3) = -3 from wrapJ (0 - 3) (by decide) (by decide)]; omega), if_neg (by omega), show [D.list 2 [iD 0, iD 0]] = [lD [0, 0]] from rfl, first_eq _ (by decide), pullD_some (0 : Int) (by rfl) (by rfl), if_neg (by decide),
    show [D.agg [D.list a.length (a.map iD), D.list b.length (b.map iD)], iD n] = [wnD a b, iD n] from rfl, shifted_eq h h1 h2, pullD_some ((pad a (-n).toNat n.toNat).length, (pad a (-n).toNat n.toNat).map iD, (pad b n.toNat (-n).toNat).length, (pad b n.toNat (-n).toNat).map iD) (by rfl) (by rfl)]
  dsimp only
  rw [if_neg (by rw [pad_len]; omega)]
theorem splice_list (o : List Int) (p : Nat) (x : Int) (h : p < o.length) : splice (o.map iD) (0 + p * 1) [dCell (.int .i64 x)] = (o.set p x).map iD := set_list o p x h
/-- The order turned in place. -/
theorem rev_go (l : List Int) (hp : 0 < l.length) (hl : l.length ≤ 1000) (kb : Nat) (cb : List D) (S : Rd → Option Rd) (hS : ∀ ds, S (.next 0 ds) = mirrored_L58_1_S0 l.length (l.map iD) kb cb ds) :
    runR S (.next 0 [iD 0, iD (IntKind.i64.wrap (((0 + l.length : Nat) : Int) - 1)), .list (0 + l.length) (l.map iD)]) = some (.out 0 [.list (0 + l.length) ((mir l).map iD)]) := by
  have e0 : IntKind.i64.wrap (((0 + l.length : Nat) : Int) - 1) = ((l.length - 1 : Nat) : Int) := by rw [wrapJ _ (by omega) (by omega)]; omega
  have h1 : runR S (.next 0 [iD 0, iD ((l.length - 1 - 0 : Nat) : Int), .list (0 + l.length) ((tab l.length fun k => if k < 0 ∨ l.length - 1 - 0 < k then at' l (l.length - 1 - k) else at' l k).map iD)]) = _ :=
    runR_scan (S := S) (fun _ => 0) (fun i => [iD (i : Int), iD ((l.length - 1 - i : Nat) : Int), .list (0 + l.length) ((tab l.length fun k => if k < i ∨ l.length - 1 - i < k then at' l (l.length - 1 - k) else at' l k).map iD)]) (Nat.zero_le (l.length / 2)) (fun i _ hi => by
    show S (.next 0 _) = _
    rw [hS]
    unfold mirrored_L58_1_S0
    rw [pullD_some ((i : Int), ((l.length - 1 - i : Nat) : Int), 0 + l.length, (tab l.length fun k => if k < i ∨ l.length - 1 - i < k then at' l (l.length - 1 - k) else at' l k).map iD) (by rfl) (by rfl)]
    dsimp only
    have e1 : IntKind.i64.wrap ((i : Int) + 1) = ((i + 1 : Nat) : Int) := natI (by omega)
    have e2 : IntKind.i64.wrap (((l.length - 1 - i : Nat) : Int) - 1) = ((l.length - 1 - (i + 1) : Nat) : Int) := by rw [wrapJ _ (by omega) (by omega)]; omega
    simp only [e1, e2, Int.toNat_natCast]
    rw [if_pos (by omega), guardP_pos (by omega), readM0 _ (by omega), pullD_some (at' l (l.length - 1 - i)) (by rw [if_neg (by omega)]) (by rfl), guardP_pos (by omega), readM0 _ (by omega), pullD_some (at' l i) (by rw [if_neg (by omega)]) (by rfl), splice_list _ _ _ (by rw [tab_len]; omega), tab_set,
      guardP_pos ⟨by simp only [List.length_map, tab_len]; omega, cellD_int _⟩, guardP_pos ⟨by simp only [List.length_map, tab_len]; omega, cellD_int _⟩, set_list _ _ _ (by rw [tab_len]; omega), tab_set]
    have h5 : (tab l.length fun j => if j = l.length - 1 - i then at' l i else if j = i then at' l (l.length - 1 - i) else if j < i ∨ l.length - 1 - i < j then at' l (l.length - 1 - j) else at' l j) = tab l.length fun k => if k < i + 1 ∨ l.length - 1 - (i + 1) < k then at' l (l.length - 1 - k) else at' l k := tab_congr fun j hj => by
      by_cases c1 : j = l.length - 1 - i
      · rw [if_pos c1, if_pos (by omega), c1, show l.length - 1 - (l.length - 1 - i) = i by omega]
      · rw [if_neg c1]
        by_cases c2 : j = i
        · rw [if_pos c2, if_pos (by omega), c2]
        · rw [if_neg c2]
          by_cases c3 : j < i ∨ l.length - 1 - i < j
          · rw [if_pos c3, if_pos (by omega)]
          · rw [if_neg c3, if_neg (by omega)]
    rw [h5])
  have h0 : (tab l.length fun k => if k < 0 ∨ l.length - 1 - 0 < k then at' l (l.length - 1 - k) else at' l k) = l := by
    rw [tab_congr (g := at' l) fun k hk => if_neg (by omega), tab_of]
  rw [h0] at h1
  have h3 : (tab l.length fun k => if k < l.length / 2 ∨ l.length - 1 - l.length / 2 < k then at' l (l.length - 1 - k) else at' l k) = mir l := tab_congr fun k hk => by
    by_cases c : k < l.length / 2 ∨ l.length - 1 - l.length / 2 < k
    · rw [if_pos c]
    · rw [if_neg c]
      congr 1
      omega
  rw [e0]
  refine h1.trans (runR_exit ?_)
  rw [hS]
  unfold mirrored_L58_1_S0
  rw [h3, pullD_some (((l.length / 2 : Nat) : Int), ((l.length - 1 - l.length / 2 : Nat) : Int), 0 + l.length, (mir l).map iD) (by rfl) (by rfl)]
  dsimp only
  rw [if_neg (by omega)]
theorem mirrored_eq (h : Win a b) : m_28 [wnD a b] = some (.tup [wnD (mir a) (mir b), iD 0]) := by
  have hp := h.pos
  have hle := h.le
  have hlen := h.len
  rw [m_28_eq]
  unfold mirrored_M
  rw [show [D.agg [D.list a.length (a.map iD), D.list b.length (b.map iD)]] = [wnD a b] from rfl, chkWindow_eq h, pullD_some (0 : Int) (by rfl) (by rfl), if_neg (by decide),
    guardP_pos hp, guardP_pos ⟨cells_int a, Nat.le_refl _, by omega, by omega⟩, guardP_pos (by simp), guardP_pos (by omega), guardP_pos ⟨cells_int b, Nat.le_refl _, by omega, by omega⟩, guardP_pos (by simp),
    bindL_some (rev_go a hp (by omega) b.length (b.map iD) (mirrored_L58_1_S a.length (a.map iD) b.length (b.map iD)) fun _ => rfl), if_pos rfl, pullD_some (0 + a.length, (mir a).map iD) (by rfl) (by rfl)]
  dsimp only
  rw [guardP_pos ⟨by simp only [List.length_map, mir_len]; omega, by omega⟩,
    bindL_some (rev_go b (by omega) (by omega) a.length (a.map iD) (mirrored_L58_1_1_S a.length (a.map iD) b.length (b.map iD) ((mir a).map iD)) fun _ => rfl), if_pos rfl, pullD_some (0 + b.length, (mir b).map iD) (by rfl) (by rfl)]
  dsimp only
  rw [guardP_pos ⟨by simp only [List.length_map, mir_len]; omega, by omega⟩]
  simp only [wnD, lD, mir_len, Nat.zero_add]
end
end Go.Proofs.Ytbfefnfmdkgfjaa
namespace Go.Proofs.Ytbfefnfmdkgfjaa
open Go.Ev Go.RowKit
set_option maxRecDepth 100000
set_option maxHeartbeats 8000000
set_option linter.all false
noncomputable section
def around_sp : List LSpec := []
def around_M (n m : Int) : Option D := some (.agg [iD (IntKind.i64.wrap (n - m)), iD (IntKind.i64.wrap (n + m))])
theorem around_M_ok (n m : Int) {r : D} (h : around_M n m = some r) : Con 72 [iD n, iD m] r := by
  unfold around_M at h
  obtain rfl := Option.some.inj h
  exact con_pc (op := true) (I := [72]) (sp := around_sp) 3000 [] [] [] [] (by kernel_rfl)
def m_72 (ds : List D) : Option D := pullD (α := Int × Int) (some (.tup ds)) (fun d => ((D.vi (D.at d 0)), (D.vi (D.at d 1)))) (fun (n, m) => .tup [iD n, iD m]) fun (n, m) => around_M n m
theorem m_72_ok {ds : List D} {r : D} (h : m_72 ds = some r) : Con 72 ds r := by
  unfold m_72 at h
  obtain ⟨⟨n, m⟩, e0, h0⟩ := pullD_elim h
  obtain rfl := tup_inj e0
  exact around_M_ok n m h0
theorem m_72_eq (n m : Int) : m_72 [iD n, iD m] = around_M n m := pullD_some (n, m) rfl rfl
def plus_sp : List LSpec := []
def plus_M (a b c d : Int) : Option D := some (.agg [iD (IntKind.i64.wrap (a + c)), iD (IntKind.i64.wrap (b + d))])
theorem plus_M_ok (a b c d : Int) {r : D} (h : plus_M a b c d = some r) : Con 73 [.agg [iD a, iD b], .agg [iD c, iD d]] r := by
  unfold plus_M at h
  obtain rfl := Option.some.inj h
  exact con_pc (op := true) (I := [73]) (sp := plus_sp) 3000 [] [] [] [] (by kernel_rfl)
def m_73 (ds : List D) : Option D := pullD (α := Int × Int × Int × Int) (some (.tup ds)) (fun d => ((D.vi (D.at (D.at d 0) 0)), (D.vi (D.at (D.at d 0) 1)), (D.vi (D.at (D.at d 1) 0)), (D.vi (D.at (D.at d 1) 1)))) (fun (a, b, c, d) => .tup [.agg [iD a, iD b], .agg [iD c, iD d]]) fun (a, b, c, d) => plus_M a b c d
theorem m_73_ok {ds : List D} {r : D} (h : m_73 ds = some r) : Con 73 ds r := by
  unfold m_73 at h
  obtain ⟨⟨a, b, c, d⟩, e0, h0⟩ := pullD_elim h
  obtain rfl := tup_inj e0
  exact plus_M_ok a b c d h0
theorem m_73_eq (a b c d : Int) : m_73 [.agg [iD a, iD b], .agg [iD c, iD d]] = plus_M a b c d := pullD_some (a, b, c, d) rfl rfl
def times_sp : List LSpec := []
def times_M (a b c d : Int) : Option D := some (.agg [iD (if IntKind.i64.wrap (b * d) < if IntKind.i64.wrap (b * c) < if IntKind.i64.wrap (a * d) < IntKind.i64.wrap (a * c) then IntKind.i64.wrap (a * d) else IntKind.i64.wrap (a * c) then IntKind.i64.wrap (b * c) else if IntKind.i64.wrap (a * d) < IntKind.i64.wrap (a * c) then IntKind.i64.wrap (a * d) else IntKind.i64.wrap (a * c) then IntKind.i64.wrap (b * d) else if IntKind.i64.wrap (b * c) < if IntKind.i64.wrap (a * d) < IntKind.i64.wrap (a * c) then IntKind.i64.wrap (a * d) else IntKind.i64.wrap (a * c) then IntKind.i64.wrap (b * c) else if IntKind.i64.wrap (a * d) < IntKind.i64.wrap (a * c) then IntKind.i64.wrap (a * d) else IntKind.i64.wrap (a * c)), iD (if IntKind.i64.wrap (b * d) > if IntKind.i64.wrap (b * c) > if IntKind.i64.wrap (a * d) > IntKind.i64.wrap (a * c) then IntKind.i64.wrap (a * d) else IntKind.i64.wrap (a * c) then IntKind.i64.wrap (b * c) else if IntKind.i64.wrap (a * d) > IntKind.i64.wrap (a * c) then IntKind.i64.wrap (a * d) else IntKind.i64.wrap (a * c) then IntKind.i64.wrap (b * d) else if IntKind.i64.wrap (b * c) > if IntKind.i64.wrap (a * d) > IntKind.i64.wrap (a * c) then IntKind.i64.wrap (a * d) else IntKind.i64.wrap (a * c) then IntKind.i64.wrap (b * c) else if IntKind.i64.wrap (a * d) > IntKind.i64.wrap (a * c) then IntKind.i64.wrap (a * d) else IntKind.i64.wrap (a * c))])
theorem times_M_ok (a b c d : Int) {r : D} (h : times_M a b c d = some r) : Con 74 [.agg [iD a, iD b], .agg [iD c, iD d]] r := by
  unfold times_M at h
  obtain rfl := Option.some.inj h
  exact con_pc (op := true) (I := [74]) (sp := times_sp) 3000 [] [] [] [] (by kernel_rfl)
def m_74 (ds : List D) : Option D := pullD (α := Int × Int × Int × Int) (some (.tup ds)) (fun d => ((D.vi (D.at (D.at d 0) 0)), (D.vi (D.at (D.at d 0) 1)), (D.vi (D.at (D.at d 1) 0)), (D.vi (D.at (D.at d 1) 1)))) (fun (a, b, c, d) => .tup [.agg [iD a, iD b], .agg [iD c, iD d]]) fun (a, b, c, d) => times_M a b c d
theorem m_74_ok {ds : List D} {r : D} (h : m_74 ds = some r) : Con 74 ds r := by
  unfold m_74 at h
  obtain ⟨⟨a, b, c, d⟩, e0, h0⟩ := pullD_elim h
  obtain rfl := tup_inj e0
  exact times_M_ok a b c d h0
theorem m_74_eq (a b c d : Int) : m_74 [.agg [iD a, iD b], .agg [iD c, iD d]] = times_M a b c d := pullD_some (a, b, c, d) rfl rfl
def bounds_x8_0 : LExit := ⟨some 2, [.cval 5 0, .cval 5 1, .cval 9 0, .cval 9 1], (10 :: (11 :: (12 :: (List.range' 23 42))))⟩
def bounds_sp : List LSpec := [⟨60, 8, [bounds_x8_0]⟩]
def bounds_L8_1_E (ka : Nat) (ca : List D) (kb : Nat) (cb : List D) (tol : Int) (x0 : Nat) (x1 : List D) (x2 : Int) (x3 : Int) (x4 : Int) (x5 : Int) : List AV × AHeap := ([.agg [.dsl 0, .dsl 1], .pure (.int .i64 tol), .ptr 2 0, .pure (.tuple #[]), .ptr 3 0, .ptr 4 0, .dsl 5, .pure (.int .i64 (1 : Int)), .dsl 1, .ptr 58 0, .any 9, .any 10, .any 11, .agg [.dsl 0, .dsl 1], .dsl 5, .agg [.dsl 0, .dsl 1], .agg [.dsl 0, .dsl 1], .pure (.int .i64 (1 : Int)), .pure (.bool true), .pure (.int .i64 (1 : Int)), .dsl 1, .dsl 1, .pure (.int .i64 (kb : Int)), .pure (.int .i64 (0 : Int)), .any 13, .any 14, .any 15, .any 16, .any 17, .any 18, .any 19, .any 20, .any 21, .any 22, .any 23, .any 24, .any 25, .any 26, .any 27, .any 28, .any 29, .any 30, .any 31, .any 32, .any 33, .any 34, .any 35, .any 36, .any 37, .any 38, .any 39, .any 40, .any 41, .any 42, .any 43, .any 44, .any 45, .any 46, .any 47, .any 48, .any 49, .any 50, .any 51, .any 52, .any 53, .pure (.int .i64 (1 : Int)), .pure (.tuple #[])], [(58, { cells := [.pure (.int .i64 (0 : Int)), .pure (.int .i64 (0 : Int))], opn := none, kind := .cells }), (8, { cells := [.pure (.int .i64 x4), .pure (.int .i64 x5)], opn := none, kind := .cells }), (7, { cells := [.dsl 0, .dsl 1], opn := none, kind := .cells }), (6, { cells := [.dsl 0, .dsl 1], opn := none, kind := .cells }), (5, { cells := [], opn := none, kind := .deep x0 x1 }), (4, { cells := [.pure (.int .i64 x2), .pure (.int .i64 x3)], opn := none, kind := .cells }), (3, { cells := [.pure (.int .i64 (0 : Int)), .pure (.int .i64 (0 : Int))], opn := none, kind := .cells }), (2, { cells := [.dsl 0, .dsl 1], opn := none, kind := .cells }), (1, { cells := [], opn := none, kind := .deep kb cb }), (0, { cells := [], opn := none, kind := .deep ka ca })])
def bounds_L8_1_A : LoopAt := ⟨60, loopAt Try.prog 60 1, 59, 108, 4, noFrame⟩
theorem bounds_L8_1_ok : (bounds_L8_1_A).OK := ⟨by show 59 ≤ 108; decide, by show 4 ≤ 59; decide, by kernel_rfl, rfl⟩
def bounds_L8_1_gs (ka : Nat) (ca : List D) (kb : Nat) (cb : List D) (tol : Int) (x0 : Nat) (x1 : List D) (x2 : Int) (x3 : Int) (x4 : Int) (x5 : Int) : Go.Ev.Rd → Option GS
  | .next 0 ds => ghost [.val 23, .cval 5 0, .cval 5 1, .cval 9 0, .cval 9 1] (10 :: (11 :: (12 :: (List.range' 24 41)))) (bounds_L8_1_E ka ca kb cb tol x0 x1 x2 x3 x4 x5).1 (bounds_L8_1_E ka ca kb cb tol x0 x1 x2 x3 x4 x5).2 59 ds
  | .out 0 ds => ghost bounds_x8_0.live bounds_x8_0.junk (bounds_L8_1_E ka ca kb cb tol x0 x1 x2 x3 x4 x5).1 (bounds_L8_1_E ka ca kb cb tol x0 x1 x2 x3 x4 x5).2 59 ds
  | _ => none
def bounds_L8_1_ex : Nat → Option Nat
  | 0 => bounds_x8_0.ex
  | _ => none
def bounds_L8_1_ax : Go.Ev.Rd → AX
  | .next _ _ => .normal
  | .out j _ => axOf (bounds_L8_1_ex j)
def bounds_L8_1_S0 (ka : Nat) (ca : List D) (kb : Nat) (cb : List D) (tol : Int) (x0 : Nat) (x1 : List D) (x2 : Int) (x3 : Int) (x4 : Int) (x5 : Int) (ds : List D) : Option Go.Ev.Rd := pullD (α := Int × Int × Int × Int × Int) (some (.tup ds)) (fun d => ((D.vi (D.at d 0)), (D.vi (D.at d 1)), (D.vi (D.at d 2)), (D.vi (D.at d 3)), (D.vi (D.at d 4)))) (fun (s23, s5_0, s5_1, s9_0, s9_1) => .tup [iD s23, iD s5_0, iD s5_1, iD s9_0, iD s9_1]) fun (s23, s5_0, s5_1, s9_0, s9_1) => ((if s23 < (kb : Int) then guardP ((0 : Int) ≤ s23 ∧ s23.toNat < kb) (pullD (α := Int) (readD cb (s23.toNat * 1) 1 false) (fun d => ((D.vi d))) (fun v0 => iD v0) fun v0 => (guardP ((0 : Int) ≤ s23 ∧ s23.toNat < x0) (pullD (α := Int) (readD x1 (s23.toNat * 1) 1 false) (fun d => ((D.vi d))) (fun v1 => iD v1) fun v1 => (guardP ((0 : Int) ≤ IntKind.i64.wrap (s23 + (1 : Int)) ∧ (IntKind.i64.wrap (s23 + (1 : Int))).toNat < x0) (pullD (α := Int) (readD x1 ((IntKind.i64.wrap (s23 + (1 : Int))).toNat * 1) 1 false) (fun d => ((D.vi d))) (fun v2 => iD v2) fun v2 => (pullD (α := Int × Int) (m_72 [iD (IntKind.i64.wrap (v1 + v2)), iD (IntKind.i64.wrap (IntKind.i64.wrap ((2 : Int) * tol) * IntKind.i64.wrap (IntKind.i64.wrap (s23 + s23) + (1 : Int))))]) (fun d => ((D.vi (D.at d 0)), (D.vi (D.at d 1)))) (fun (r3, r4) => .agg [iD r3, iD r4]) fun (r3, r4) => (pullD (α := Int × Int) (m_72 [iD v0, iD tol]) (fun d => ((D.vi (D.at d 0)), (D.vi (D.at d 1)))) (fun (r5, r6) => .agg [iD r5, iD r6]) fun (r5, r6) => (pullD (α := Int × Int) (m_74 [.agg [iD r5, iD r6], .agg [iD r3, iD r4]]) (fun d => ((D.vi (D.at d 0)), (D.vi (D.at d 1)))) (fun (r7, r8) => .agg [iD r7, iD r8]) fun (r7, r8) => (pullD (α := Int × Int) (m_73 [.agg [iD s9_0, iD s9_1], .agg [iD r7, iD r8]]) (fun d => ((D.vi (D.at d 0)), (D.vi (D.at d 1)))) (fun (r9, r10) => .agg [iD r9, iD r10]) fun (r9, r10) => (some (.next 0 [iD (IntKind.i64.wrap (s23 + (1 : Int))), iD s5_0, iD (if IntKind.i64.wrap ((0 : Int) - r9) > if r10 > s5_1 then r10 else s5_1 then IntKind.i64.wrap ((0 : Int) - r9) else if r10 > s5_1 then r10 else s5_1), iD r9, iD r10]))))))))))) else some (.out 0 [iD s5_0, iD s5_1, iD s9_0, iD s9_1])))
def bounds_L8_1_S (ka : Nat) (ca : List D) (kb : Nat) (cb : List D) (tol : Int) (x0 : Nat) (x1 : List D) (x2 : Int) (x3 : Int) (x4 : Int) (x5 : Int) : Go.Ev.Rd → Option Go.Ev.Rd
  | .next 0 ds => bounds_L8_1_S0 ka ca kb cb tol x0 x1 x2 x3 x4 x5 ds
  | _ => none
theorem bounds_L8_1_S_ok (ka : Nat) (ca : List D) (kb : Nat) (cb : List D) (tol : Int) (x0 : Nat) (x1 : List D) (x2 : Int) (x3 : Int) (x4 : Int) (x5 : Int) : ∀ s_ t_, bounds_L8_1_S ka ca kb cb tol x0 x1 x2 x3 x4 x5 s_ = some t_ → Step (ctx [60, 67] bounds_sp) Tabs bounds_L8_1_A (stateOf (bounds_L8_1_gs ka ca kb cb tol x0 x1 x2 x3 x4 x5 s_)) (stateOf (bounds_L8_1_gs ka ca kb cb tol x0 x1 x2 x3 x4 x5 t_)) (bounds_L8_1_ax t_) ∧ EndOK bounds_L8_1_A.nx bounds_L8_1_A.low (bounds_L8_1_gs ka ca kb cb tol x0 x1 x2 x3 x4 x5) t_
  | .next 0 ds, t_, h => by
    have h_ : bounds_L8_1_S0 ka ca kb cb tol x0 x1 x2 x3 x4 x5 ds = some t_ := h
    clear h
    unfold bounds_L8_1_S0 at h_
    obtain ⟨⟨s23, s5_0, s5_1, s9_0, s9_1⟩, e0, h0⟩ := pullD_elim h_
    clear h_
    obtain rfl := tup_inj e0
    by_cases b1_ : s23 < (kb : Int)
    · have h2_ := (if_pos b1_).symm.trans h0
      obtain ⟨f3_, h4_⟩ := guardP_elim h2_
      obtain ⟨v0, f5_, h6_⟩ := pullD_elim h4_
      replace f5_ := readD_elim f5_
      obtain ⟨f7_, h8_⟩ := guardP_elim h6_
      obtain ⟨v1, f9_, h10_⟩ := pullD_elim h8_
      replace f9_ := readD_elim f9_
      obtain ⟨f11_, h12_⟩ := guardP_elim h10_
      obtain ⟨v2, f13_, h14_⟩ := pullD_elim h12_
      replace f13_ := readD_elim f13_
      obtain ⟨⟨r3, r4⟩, f15_, h16_⟩ := pullD_elim h14_
      replace f15_ := m_72_ok f15_
      obtain ⟨⟨r5, r6⟩, f17_, h18_⟩ := pullD_elim h16_
      replace f17_ := m_72_ok f17_
      obtain ⟨⟨r7, r8⟩, f19_, h20_⟩ := pullD_elim h18_
      replace f19_ := m_74_ok f19_
      obtain ⟨⟨r9, r10⟩, f21_, h22_⟩ := pullD_elim h20_
      replace f21_ := m_73_ok f21_
      obtain rfl := Option.some.inj h22_
      exact ⟨step_pc 3000 (bT 1 []) [iD v0, iD v1, iD v2, .agg [iD r3, iD r4], .agg [iD r5, iD r6], .agg [iD r7, iD r8], .agg [iD r9, iD r10]] [c_d b1_, c_f f3_, c_f f5_, c_f f7_, c_f f9_, c_f f11_, c_f f13_] [k_c f15_, k_c f17_, k_c f19_, k_c f21_] _ rfl (by kernel_rfl) (by kernel_rfl) (by kernel_rfl) (by kernel_rfl) (by kernel_rfl) (by kernel_rfl), trivial⟩
    have h2_ := (if_neg b1_).symm.trans h0
    obtain rfl := Option.some.inj h2_
    exact ⟨step_pc 3000 (bF 1 []) [] [c_n b1_] [] _ rfl (by kernel_rfl) (by kernel_rfl) (by kernel_rfl) (by kernel_rfl) (by kernel_rfl) (by kernel_rfl), by kernel_rfl, by kernel_rfl⟩
  | .next (_ + 1) _, _, h => by cases h
  | .out _ _, _, h => by cases h
theorem bounds_L8_1_go (ka : Nat) (ca : List D) (kb : Nat) (cb : List D) (tol : Int) (x0 : Nat) (x1 : List D) (x2 : Int) (x3 : Int) (x4 : Int) (x5 : Int) {q : Nat} {ds : List D} {j : Nat} {es : List D} (h : runR (bounds_L8_1_S ka ca kb cb tol x0 x1 x2 x3 x4 x5) (.next q ds) = some (.out j es)) : Runs (ctx [60, 67] bounds_sp) Tabs bounds_L8_1_A (stateOf (bounds_L8_1_gs ka ca kb cb tol x0 x1 x2 x3 x4 x5 (.next q ds))) (stateOf (bounds_L8_1_gs ka ca kb cb tol x0 x1 x2 x3 x4 x5 (.out j es))) (bounds_L8_1_ax (.out j es)) ∧ (nxtOf (bounds_L8_1_gs ka ca kb cb tol x0 x1 x2 x3 x4 x5 (.out j es)), lowGS (bounds_L8_1_gs ka ca kb cb tol x0 x1 x2 x3 x4 x5 (.out j es))) = (bounds_L8_1_A.nx, bounds_L8_1_A.low) :=
  runs_of' (good true _ _) bounds_L8_1_ok (ax := bounds_L8_1_ax) (fun _ _ => rfl) (fun _ _ => axOf_end _) (bounds_L8_1_S_ok ka ca kb cb tol x0 x1 x2 x3 x4 x5) h
theorem bounds_L8_1_in0 (ka : Nat) (ca : List D) (kb : Nat) (cb : List D) (tol : Int) (x0 : Nat) (x1 : List D) (x2 : Int) (x3 : Int) (x4 : Int) (x5 : Int) {es : List D} (h : runR (bounds_L8_1_S ka ca kb cb tol x0 x1 x2 x3 x4 x5) (.next 0 [iD ((0 : Int)), iD x2, iD x3, iD ((0 : Int)), iD ((0 : Int))]) = some (.out 0 es)) : LoopC (loopAt Try.prog 60 1) (bounds_L8_1_E ka ca kb cb tol x0 x1 x2 x3 x4 x5) 59 noFrame bounds_x8_0 es :=
  have r := bounds_L8_1_go ka ca kb cb tol x0 x1 x2 x3 x4 x5 h
  loopin_as rfl (loop_in (l := bounds_L8_1_A) (E := (bounds_L8_1_E ka ca kb cb tol x0 x1 x2 x3 x4 x5)) (S := stateOf (bounds_L8_1_gs ka ca kb cb tol x0 x1 x2 x3 x4 x5 (.next 0 [iD ((0 : Int)), iD x2, iD x3, iD ((0 : Int)), iD ((0 : Int))]))) (ns := nsOf (bounds_L8_1_gs ka ca kb cb tol x0 x1 x2 x3 x4 x5 (.next 0 [iD ((0 : Int)), iD x2, iD x3, iD ((0 : Int)), iD ((0 : Int))]))) bounds_L8_1_ok r.1 r.2 (by kernel_rfl) (by kernel_rfl) (by kernel_rfl) (by kernel_rfl))
def bounds_L8_E (ka : Nat) (ca : List D) (kb : Nat) (cb : List D) (tol : Int) (x0 : Nat) (x1 : List D) : List AV × AHeap := ([.agg [.dsl 0, .dsl 1], .pure (.int .i64 tol), .ptr 2 0, .pure (.tuple #[]), .ptr 3 0, .ptr 4 0, .dsl 5, .pure (.int .i64 (0 : Int)), .dsl 0, .ptr 8 0, .pure (.tuple #[]), .pure (.tuple #[]), .pure (.tuple #[]), .agg [.dsl 0, .dsl 1], .dsl 5, .agg [.dsl 0, .dsl 1], .agg [.dsl 0, .dsl 1], .pure (.int .i64 (0 : Int)), .pure (.bool true), .pure (.int .i64 (0 : Int)), .dsl 0, .dsl 0, .pure (.int .i64 (ka : Int)), .pure (.int .i64 (0 : Int)), .pure (.tuple #[]), .pure (.tuple #[]), .pure (.tuple #[]), .pure (.tuple #[]), .pure (.tuple #[]), .pure (.tuple #[]), .pure (.tuple #[]), .pure (.tuple #[]), .pure (.tuple #[]), .pure (.tuple #[]), .pure (.tuple #[]), .pure (.tuple #[]), .pure (.tuple #[]), .pure (.tuple #[]), .pure (.tuple #[]), .pure (.tuple #[]), .pure (.tuple #[]), .pure (.tuple #[]), .pure (.tuple #[]), .pure (.tuple #[]), .pure (.tuple #[]), .pure (.tuple #[]), .pure (.tuple #[]), .pure (.tuple #[]), .pure (.tuple #[]), .pure (.tuple #[]), .pure (.tuple #[]), .pure (.tuple #[]), .pure (.tuple #[]), .pure (.tuple #[]), .pure (.tuple #[]), .pure (.tuple #[]), .pure (.tuple #[]), .pure (.tuple #[]), .pure (.tuple #[]), .pure (.tuple #[]), .pure (.tuple #[]), .pure (.tuple #[]), .pure (.tuple #[]), .pure (.tuple #[]), .pure (.tuple #[]), .pure (.tuple #[]), .pure (.tuple #[])], [(8, { cells := [.pure (.int .i64 (0 : Int)), .pure (.int .i64 (0 : Int))], opn := none, kind := .cells }), (7, { cells := [.dsl 0, .dsl 1], opn := none, kind := .cells }), (6, { cells := [.dsl 0, .dsl 1], opn := none, kind := .cells }), (5, { cells := [], opn := none, kind := .deep x0 x1 }), (4, { cells := [.pure (.int .i64 (0 : Int)), .pure (.int .i64 (0 : Int))], opn := none, kind := .cells }), (3, { cells := [.pure (.int .i64 (0 : Int)), .pure (.int .i64 (0 : Int))], opn := none, kind := .cells }), (2, { cells := [.dsl 0, .dsl 1], opn := none, kind := .cells }), (1, { cells := [], opn := none, kind := .deep kb cb }), (0, { cells := [], opn := none, kind := .deep ka ca })])
def bounds_L8_A : LoopAt := ⟨60, loopAt Try.prog 60 1, 9, 58, 4, noFrame⟩
theorem bounds_L8_ok : (bounds_L8_A).OK := ⟨by show 9 ≤ 58; decide, by show 4 ≤ 9; decide, by kernel_rfl, rfl⟩
def bounds_L8_gs (ka : Nat) (ca : List D) (kb : Nat) (cb : List D) (tol : Int) (x0 : Nat) (x1 : List D) : Go.Ev.Rd → Option GS
  | .next 0 ds => ghost [.val 23, .cval 5 0, .cval 5 1, .cval 9 0, .cval 9 1] (10 :: (11 :: (12 :: (List.range' 24 41)))) (bounds_L8_E ka ca kb cb tol x0 x1).1 (bounds_L8_E ka ca kb cb tol x0 x1).2 9 ds
  | .out 0 ds => ghost bounds_x8_0.live bounds_x8_0.junk (bounds_L8_E ka ca kb cb tol x0 x1).1 (bounds_L8_E ka ca kb cb tol x0 x1).2 9 ds
  | _ => none
def bounds_L8_ex : Nat → Option Nat
  | 0 => bounds_x8_0.ex
  | _ => none
def bounds_L8_ax : Go.Ev.Rd → AX
  | .next _ _ => .normal
  | .out j _ => axOf (bounds_L8_ex j)
def bounds_L8_S0 (ka : Nat) (ca : List D) (kb : Nat) (cb : List D) (tol : Int) (x0 : Nat) (x1 : List D) (ds : List D) : Option Go.Ev.Rd := pullD (α := Int × Int × Int × Int × Int) (some (.tup ds)) (fun d => ((D.vi (D.at d 0)), (D.vi (D.at d 1)), (D.vi (D.at d 2)), (D.vi (D.at d 3)), (D.vi (D.at d 4)))) (fun (s23, s5_0, s5_1, s9_0, s9_1) => .tup [iD s23, iD s5_0, iD s5_1, iD s9_0, iD s9_1]) fun (s23, s5_0, s5_1, s9_0, s9_1) => ((if s23 < (ka : Int) then guardP ((0 : Int) ≤ s23 ∧ s23.toNat < ka) (pullD (α := Int) (readD ca (s23.toNat * 1) 1 false) (fun d => ((D.vi d))) (fun v0 => iD v0) fun v0 => (guardP ((0 : Int) ≤ s23 ∧ s23.toNat < x0) (pullD (α := Int) (readD x1 (s23.toNat * 1) 1 false) (fun d => ((D.vi d))) (fun v1 => iD v1) fun v1 => (guardP ((0 : Int) ≤ IntKind.i64.wrap (s23 + (1 : Int)) ∧ (IntKind.i64.wrap (s23 + (1 : Int))).toNat < x0) (pullD (α := Int) (readD x1 ((IntKind.i64.wrap (s23 + (1 : Int))).toNat * 1) 1 false) (fun d => ((D.vi d))) (fun v2 => iD v2) fun v2 => (pullD (α := Int × Int) (m_72 [iD (IntKind.i64.wrap (v1 + v2)), iD (IntKind.i64.wrap (IntKind.i64.wrap ((2 : Int) * tol) * IntKind.i64.wrap (IntKind.i64.wrap (s23 + s23) + (1 : Int))))]) (fun d => ((D.vi (D.at d 0)), (D.vi (D.at d 1)))) (fun (r3, r4) => .agg [iD r3, iD r4]) fun (r3, r4) => (pullD (α := Int × Int) (m_72 [iD v0, iD tol]) (fun d => ((D.vi (D.at d 0)), (D.vi (D.at d 1)))) (fun (r5, r6) => .agg [iD r5, iD r6]) fun (r5, r6) => (pullD (α := Int × Int) (m_74 [.agg [iD r5, iD r6], .agg [iD r3, iD r4]]) (fun d => ((D.vi (D.at d 0)), (D.vi (D.at d 1)))) (fun (r7, r8) => .agg [iD r7, iD r8]) fun (r7, r8) => (pullD (α := Int × Int) (m_73 [.agg [iD s9_0, iD s9_1], .agg [iD r7, iD r8]]) (fun d => ((D.vi (D.at d 0)), (D.vi (D.at d 1)))) (fun (r9, r10) => .agg [iD r9, iD r10]) fun (r9, r10) => (some (.next 0 [iD (IntKind.i64.wrap (s23 + (1 : Int))), iD (if IntKind.i64.wrap ((0 : Int) - r9) > if r10 > s5_0 then r10 else s5_0 then IntKind.i64.wrap ((0 : Int) - r9) else if r10 > s5_0 then r10 else s5_0), iD s5_1, iD r9, iD r10]))))))))))) else some (.out 0 [iD s5_0, iD s5_1, iD s9_0, iD s9_1])))
def bounds_L8_S (ka : Nat) (ca : List D) (kb : Nat) (cb : List D) (tol : Int) (x0 : Nat) (x1 : List D) : Go.Ev.Rd → Option Go.Ev.Rd
  | .next 0 ds => bounds_L8_S0 ka ca kb cb tol x0 x1 ds
  | _ => none
theorem bounds_L8_S_ok (ka : Nat) (ca : List D) (kb : Nat) (cb : List D) (tol : Int) (x0 : Nat) (x1 : List D) : ∀ s_ t_, bounds_L8_S ka ca kb cb tol x0 x1 s_ = some t_ → Step (ctx [60, 67] bounds_sp) Tabs bounds_L8_A (stateOf (bounds_L8_gs ka ca kb cb tol x0 x1 s_)) (stateOf (bounds_L8_gs ka ca kb cb tol x0 x1 t_)) (bounds_L8_ax t_) ∧ EndOK bounds_L8_A.nx bounds_L8_A.low (bounds_L8_gs ka ca kb cb tol x0 x1) t_
  | .next 0 ds, t_, h => by
    have h_ : bounds_L8_S0 ka ca kb cb tol x0 x1 ds = some t_ := h
    clear h
    unfold bounds_L8_S0 at h_
    obtain ⟨⟨s23, s5_0, s5_1, s9_0, s9_1⟩, e0, h0⟩ := pullD_elim h_
    clear h_
    obtain rfl := tup_inj e0
    by_cases b1_ : s23 < (ka : Int)
    · have h2_ := (if_pos b1_).symm.trans h0
      obtain ⟨f3_, h4_⟩ := guardP_elim h2_
      obtain ⟨v0, f5_, h6_⟩ := pullD_elim h4_
      replace f5_ := readD_elim f5_
      obtain ⟨f7_, h8_⟩ := guardP_elim h6_
      obtain ⟨v1, f9_, h10_⟩ := pullD_elim h8_
      replace f9_ := readD_elim f9_
      obtain ⟨f11_, h12_⟩ := guardP_elim h10_
      obtain ⟨v2, f13_, h14_⟩ := pullD_elim h12_
      replace f13_ := readD_elim f13_
      obtain ⟨⟨r3, r4⟩, f15_, h16_⟩ := pullD_elim h14_
      replace f15_ := m_72_ok f15_
      obtain ⟨⟨r5, r6⟩, f17_, h18_⟩ := pullD_elim h16_
      replace f17_ := m_72_ok f17_
      obtain ⟨⟨r7, r8⟩, f19_, h20_⟩ := pullD_elim h18_
      replace f19_ := m_74_ok f19_
      obtain ⟨⟨r9, r10⟩, f21_, h22_⟩ := pullD_elim h20_
      replace f21_ := m_73_ok f21_
      obtain rfl := Option.some.inj h22_
      exact ⟨step_pc 3000 (bT 1 []) [iD v0, iD v1, iD v2, .agg [iD r3, iD r4], .agg [iD r5, iD r6], .agg [iD r7, iD r8], .agg [iD r9, iD r10]] [c_d b1_, c_f f3_, c_f f5_, c_f f7_, c_f f9_, c_f f11_, c_f f13_] [k_c f15_, k_c f17_, k_c f19_, k_c f21_] _ rfl (by kernel_rfl) (by kernel_rfl) (by kernel_rfl) (by kernel_rfl) (by kernel_rfl) (by kernel_rfl), trivial⟩
    have h2_ := (if_neg b1_).symm.trans h0
    obtain rfl := Option.some.inj h2_
    exact ⟨step_pc 3000 (bF 1 []) [] [c_n b1_] [] _ rfl (by kernel_rfl) (by kernel_rfl) (by kernel_rfl) (by kernel_rfl) (by kernel_rfl) (by kernel_rfl), by kernel_rfl, by kernel_rfl⟩
  | .next (_ + 1) _, _, h => by cases h
  | .out _ _, _, h => by cases h
theorem bounds_L8_go (ka : Nat) (ca : List D) (kb : Nat) (cb : List D) (tol : Int) (x0 : Nat) (x1 : List D) {q : Nat} {ds : List D} {j : Nat} {es : List D} (h : runR (bounds_L8_S ka ca kb cb tol x0 x1) (.next q ds) = some (.out j es)) : Runs (ctx [60, 67] bounds_sp) Tabs bounds_L8_A (stateOf (bounds_L8_gs ka ca kb cb tol x0 x1 (.next q ds))) (stateOf (bounds_L8_gs ka ca kb cb tol x0 x1 (.out j es))) (bounds_L8_ax (.out j es)) ∧ (nxtOf (bounds_L8_gs ka ca kb cb tol x0 x1 (.out j es)), lowGS (bounds_L8_gs ka ca kb cb tol x0 x1 (.out j es))) = (bounds_L8_A.nx, bounds_L8_A.low) :=
  runs_of' (good true _ _) bounds_L8_ok (ax := bounds_L8_ax) (fun _ _ => rfl) (fun _ _ => axOf_end _) (bounds_L8_S_ok ka ca kb cb tol x0 x1) h
theorem bounds_L8_in0 (ka : Nat) (ca : List D) (kb : Nat) (cb : List D) (tol : Int) (x0 : Nat) (x1 : List D) {es : List D} (h : runR (bounds_L8_S ka ca kb cb tol x0 x1) (.next 0 [iD ((0 : Int)), iD ((0 : Int)), iD ((0 : Int)), iD ((0 : Int)), iD ((0 : Int))]) = some (.out 0 es)) : LoopC (loopAt Try.prog 60 1) (bounds_L8_E ka ca kb cb tol x0 x1) 9 noFrame bounds_x8_0 es :=
  have r := bounds_L8_go ka ca kb cb tol x0 x1 h
  loopin_as rfl (loop_in (l := bounds_L8_A) (E := (bounds_L8_E ka ca kb cb tol x0 x1)) (S := stateOf (bounds_L8_gs ka ca kb cb tol x0 x1 (.next 0 [iD ((0 : Int)), iD ((0 : Int)), iD ((0 : Int)), iD ((0 : Int)), iD ((0 : Int))]))) (ns := nsOf (bounds_L8_gs ka ca kb cb tol x0 x1 (.next 0 [iD ((0 : Int)), iD ((0 : Int)), iD ((0 : Int)), iD ((0 : Int)), iD ((0 : Int))]))) bounds_L8_ok r.1 r.2 (by kernel_rfl) (by kernel_rfl) (by kernel_rfl) (by kernel_rfl))
def bounds_M (ka : Nat) (ca : List D) (kb : Nat) (cb : List D) (tol : Int) : Option D := pullD (α := Nat × (List D)) (m_41 [.agg [.list ka ca, .list kb cb]]) (fun d => ((D.ln d), (D.lc d))) (fun (k0, c1) => .list k0 c1) fun (k0, c1) => (bindL (runR (bounds_L8_S ka ca kb cb tol k0 c1) (.next 0 [iD ((0 : Int)), iD ((0 : Int)), iD ((0 : Int)), iD ((0 : Int)), iD ((0 : Int))])) fun j ds => (if j = 0 then pullD (α := Int × Int × Int × Int) (some (.tup ds)) (fun d => ((D.vi (D.at d 0)), (D.vi (D.at d 1)), (D.vi (D.at d 2)), (D.vi (D.at d 3)))) (fun (l2, l3, l4, l5) => .tup [iD l2, iD l3, iD l4, iD l5]) fun (l2, l3, l4, l5) => (bindL (runR (bounds_L8_1_S ka ca kb cb tol k0 c1 l2 l3 l4 l5) (.next 0 [iD ((0 : Int)), iD l2, iD l3, iD ((0 : Int)), iD ((0 : Int))])) fun j ds => (if j = 0 then pullD (α := Int × Int × Int × Int) (some (.tup ds)) (fun d => ((D.vi (D.at d 0)), (D.vi (D.at d 1)), (D.vi (D.at d 2)), (D.vi (D.at d 3)))) (fun (l6, l7, l8, l9) => .tup [iD l6, iD l7, iD l8, iD l9]) fun (l6, l7, l8, l9) => (some (.agg [iD l6, iD l7])) else none)) else none))
theorem bounds_M_ok (ka : Nat) (ca : List D) (kb : Nat) (cb : List D) (tol : Int) {r : D} (h : bounds_M ka ca kb cb tol = some r) : Con 60 [.agg [.list ka ca, .list kb cb], iD tol] r := by
  unfold bounds_M at h
  obtain ⟨⟨k0, c1⟩, f1_, h2_⟩ := pullD_elim h
  replace f1_ := m_41_ok f1_
  obtain ⟨j, ds, e3_, h4_⟩ := bindL_elim h2_
  by_cases j5_ : j = 0
  · have h8_ := (if_pos j5_).symm.trans h4_
    clear h4_
    subst j5_
    obtain ⟨⟨l2, l3, l4, l5⟩, e6_, h9_⟩ := pullD_elim h8_
    clear h8_
    obtain rfl := tup_inj e6_
    have k7_ := bounds_L8_in0 ka ca kb cb tol k0 c1 e3_
    obtain ⟨j, ds, e10_, h11_⟩ := bindL_elim h9_
    by_cases j12_ : j = 0
    · have h15_ := (if_pos j12_).symm.trans h11_
      clear h11_
      subst j12_
      obtain ⟨⟨l6, l7, l8, l9⟩, e13_, h16_⟩ := pullD_elim h15_
      clear h15_
      obtain rfl := tup_inj e13_
      have k14_ := bounds_L8_1_in0 ka ca kb cb tol k0 c1 l2 l3 l4 l5 e10_
      obtain rfl := Option.some.inj h16_
      exact con_pc (op := true) (I := [60, 67]) (sp := bounds_sp) 3000 (bT 2 (bF 1 [])) [.list k0 c1, .tup [iD (Int.ofNat 0), iD l2, iD l3, iD l4, iD l5], .tup [iD (Int.ofNat 0), iD l6, iD l7, iD l8, iD l9]] [c_T, c_T, c_F] [k_c f1_, k_l k7_ (bT 1 (bF 1 [])) [.tup [iD (Int.ofNat 0), iD l2, iD l3, iD l4, iD l5], .tup [iD (Int.ofNat 0), iD l6, iD l7, iD l8, iD l9]] [.tup [iD (Int.ofNat 0), iD l6, iD l7, iD l8, iD l9]], k_l k14_ (bF 1 []) [.tup [iD (Int.ofNat 0), iD l6, iD l7, iD l8, iD l9]] []] (by kernel_rfl)
    have h17_ := (if_neg j12_).symm.trans h11_
    clear h11_
    cases h17_
  have h18_ := (if_neg j5_).symm.trans h4_
  clear h4_
  cases h18_
def m_60 (ds : List D) : Option D := pullD (α := Nat × (List D) × Nat × (List D) × Int) (some (.tup ds)) (fun d => ((D.ln (D.at (D.at d 0) 0)), (D.lc (D.at (D.at d 0) 0)), (D.ln (D.at (D.at d 0) 1)), (D.lc (D.at (D.at d 0) 1)), (D.vi (D.at d 1)))) (fun (ka, ca, kb, cb, tol) => .tup [.agg [.list ka ca, .list kb cb], iD tol]) fun (ka, ca, kb, cb, tol) => bounds_M ka ca kb cb tol
theorem m_60_ok {ds : List D} {r : D} (h : m_60 ds = some r) : Con 60 ds r := by
  unfold m_60 at h
  obtain ⟨⟨ka, ca, kb, cb, tol⟩, e0, h0⟩ := pullD_elim h
  obtain rfl := tup_inj e0
  exact bounds_M_ok ka ca kb cb tol h0
theorem m_60_eq (ka : Nat) (ca : List D) (kb : Nat) (cb : List D) (tol : Int) : m_60 [.agg [.list ka ca, .list kb cb], iD tol] = bounds_M ka ca kb cb tol := pullD_some (ka, ca, kb, cb, tol) rfl rfl
def thrustBound_sp : List LSpec := []
def thrustBound_M (ka : Nat) (ca : List D) (kb : Nat) (cb : List D) (tol : Int) : Option D := pullD (α := Nat × (List D) × Nat × (List D) × Int) (m_40 [.agg [.list ka ca, .list kb cb]]) (fun d => ((D.ln (D.at (D.at d 0) 0)), (D.lc (D.at (D.at d 0) 0)), (D.ln (D.at (D.at d 0) 1)), (D.lc (D.at (D.at d 0) 1)), (D.vi (D.at d 1)))) (fun (k0, c1, k2, c3, r4) => .tup [.agg [.list k0 c1, .list k2 c3], iD r4]) fun (k0, c1, k2, c3, r4) => ((if tol < (0 : Int) then pullD (α := Int) (m_47 [.list 2 [iD r4, iD (2 : Int)]]) (fun d => ((D.vi d))) (fun r5 => iD r5) fun r5 => ((if r5 ≠ (0 : Int) then some (.tup [.agg [iD (0 : Int), iD (0 : Int)], iD r5]) else pullD (α := Int × Int) (m_60 [.agg [.list k0 c1, .list k2 c3], iD tol]) (fun d => ((D.vi (D.at d 0)), (D.vi (D.at d 1)))) (fun (r6, r7) => .agg [iD r6, iD r7]) fun (r6, r7) => (some (.tup [.agg [iD r6, iD r7], iD (0 : Int)])))) else (if tol > (20 : Int) then pullD (α := Int) (m_47 [.list 2 [iD r4, iD (2 : Int)]]) (fun d => ((D.vi d))) (fun r8 => iD r8) fun r8 => ((if r8 ≠ (0 : Int) then some (.tup [.agg [iD (0 : Int), iD (0 : Int)], iD r8]) else pullD (α := Int × Int) (m_60 [.agg [.list k0 c1, .list k2 c3], iD tol]) (fun d => ((D.vi (D.at d 0)), (D.vi (D.at d 1)))) (fun (r9, r10) => .agg [iD r9, iD r10]) fun (r9, r10) => (some (.tup [.agg [iD r9, iD r10], iD (0 : Int)])))) else pullD (α := Int) (m_47 [.list 2 [iD r4, iD (0 : Int)]]) (fun d => ((D.vi d))) (fun r11 => iD r11) fun r11 => ((if r11 ≠ (0 : Int) then some (.tup [.agg [iD (0 : Int), iD (0 : Int)], iD r11]) else pullD (α := Int × Int) (m_60 [.agg [.list k0 c1, .list k2 c3], iD tol]) (fun d => ((D.vi (D.at d 0)), (D.vi (D.at d 1)))) (fun (r12, r13) => .agg [iD r12, iD r13]) fun (r12, r13) => (some (.tup [.agg [iD r12, iD r13], iD (0 : Int)])))))))
theorem thrustBound_M_ok (ka : Nat) (ca : List D) (kb : Nat) (cb : List D) (tol : Int) {r : D} (h : thrustBound_M ka ca kb cb tol = some r) : Con 29 [.agg [.list ka ca, .list kb cb], iD tol] r := by
  unfold thrustBound_M at h
  obtain ⟨⟨k0, c1, k2, c3, r4⟩, f1_, h2_⟩ := pullD_elim h
  replace f1_ := m_40_ok f1_
  by_cases b3_ : tol < (0 : Int)
  · have h4_ := (if_pos b3_).symm.trans h2_
    obtain ⟨r5, f5_, h6_⟩ := pullD_elim h4_
    replace f5_ := m_47_ok f5_
    by_cases b7_ : r5 ≠ (0 : Int)
    · have h8_ := (if_pos b7_).symm.trans h6_
      obtain rfl := Option.some.inj h8_
      exact con_pc (op := true) (I := [29, 59, 71]) (sp := thrustBound_sp) 3000 (bT 7 []) [.tup [.agg [.list k0 c1, .list k2 c3], iD r4], iD r5] [c_T, c_d b3_, c_d b3_, c_d b3_, c_d b3_, c_T, c_le 1, c_b b7_] [k_c f1_, k_c f5_] (by kernel_rfl)
    have h8_ := (if_neg b7_).symm.trans h6_
    have b9_ : r5 = (0 : Int) := by first | exact b7_ | simpa using b7_
    obtain ⟨⟨r6, r7⟩, f10_, h11_⟩ := pullD_elim h8_
    replace f10_ := m_60_ok f10_
    obtain rfl := Option.some.inj h11_
    exact con_pc (op := true) (I := [29, 59, 71]) (sp := thrustBound_sp) 3000 (bT 6 (bF 1 [])) [.tup [.agg [.list k0 c1, .list k2 c3], iD r4], iD r5, .agg [iD r6, iD r7]] [c_T, c_d b3_, c_d b3_, c_d b3_, c_d b3_, c_T, c_le 1, c_bn b9_] [k_c f1_, k_c f5_, k_c f10_] (by kernel_rfl)
  have h4_ := (if_neg b3_).symm.trans h2_
  by_cases b12_ : tol > (20 : Int)
  · have h13_ := (if_pos b12_).symm.trans h4_
    obtain ⟨r8, f14_, h15_⟩ := pullD_elim h13_
    replace f14_ := m_47_ok f14_
    by_cases b16_ : r8 ≠ (0 : Int)
    · have h17_ := (if_pos b16_).symm.trans h15_
      obtain rfl := Option.some.inj h17_
      exact con_pc (op := true) (I := [29, 59, 71]) (sp := thrustBound_sp) 3000 (bT 1 (bF 4 (bT 2 []))) [.tup [.agg [.list k0 c1, .list k2 c3], iD r4], iD r8] [c_T, c_n b3_, c_n b3_, c_n b3_, c_n b3_, c_d b12_, c_le 1, c_b b16_] [k_c f1_, k_c f14_] (by kernel_rfl)
    have h17_ := (if_neg b16_).symm.trans h15_
    have b18_ : r8 = (0 : Int) := by first | exact b16_ | simpa using b16_
    obtain ⟨⟨r9, r10⟩, f19_, h20_⟩ := pullD_elim h17_
    replace f19_ := m_60_ok f19_
    obtain rfl := Option.some.inj h20_
    exact con_pc (op := true) (I := [29, 59, 71]) (sp := thrustBound_sp) 3000 (bT 1 (bF 4 (bT 1 (bF 1 [])))) [.tup [.agg [.list k0 c1, .list k2 c3], iD r4], iD r8, .agg [iD r9, iD r10]] [c_T, c_n b3_, c_n b3_, c_n b3_, c_n b3_, c_d b12_, c_le 1, c_bn b18_] [k_c f1_, k_c f14_, k_c f19_] (by kernel_rfl)
  have h13_ := (if_neg b12_).symm.trans h4_
  obtain ⟨r11, f21_, h22_⟩ := pullD_elim h13_
  replace f21_ := m_47_ok f21_
  by_cases b23_ : r11 ≠ (0 : Int)
  · have h24_ := (if_pos b23_).symm.trans h22_
    obtain rfl := Option.some.inj h24_
    exact con_pc (op := true) (I := [29, 59, 71]) (sp := thrustBound_sp) 3000 (bT 1 (bF 6 (bT 1 []))) [.tup [.agg [.list k0 c1, .list k2 c3], iD r4], iD r11] [c_T, c_n b3_, c_n b3_, c_n b3_, c_n b3_, c_n b12_, c_F, c_le 1, c_b b23_] [k_c f1_, k_c f21_] (by kernel_rfl)
  have h24_ := (if_neg b23_).symm.trans h22_
  have b25_ : r11 = (0 : Int) := by first | exact b23_ | simpa using b23_
  obtain ⟨⟨r12, r13⟩, f26_, h27_⟩ := pullD_elim h24_
  replace f26_ := m_60_ok f26_
  obtain rfl := Option.some.inj h27_
  exact con_pc (op := true) (I := [29, 59, 71]) (sp := thrustBound_sp) 3000 (bT 1 (bF 7 [])) [.tup [.agg [.list k0 c1, .list k2 c3], iD r4], iD r11, .agg [iD r12, iD r13]] [c_T, c_n b3_, c_n b3_, c_n b3_, c_n b3_, c_n b12_, c_F, c_le 1, c_bn b25_] [k_c f1_, k_c f21_, k_c f26_] (by kernel_rfl)
def m_29 (ds : List D) : Option D := pullD (α := Nat × (List D) × Nat × (List D) × Int) (some (.tup ds)) (fun d => ((D.ln (D.at (D.at d 0) 0)), (D.lc (D.at (D.at d 0) 0)), (D.ln (D.at (D.at d 0) 1)), (D.lc (D.at (D.at d 0) 1)), (D.vi (D.at d 1)))) (fun (ka, ca, kb, cb, tol) => .tup [.agg [.list ka ca, .list kb cb], iD tol]) fun (ka, ca, kb, cb, tol) => thrustBound_M ka ca kb cb tol
theorem m_29_ok {ds : List D} {r : D} (h : m_29 ds = some r) : Con 29 ds r := by
  unfold m_29 at h
  obtain ⟨⟨ka, ca, kb, cb, tol⟩, e0, h0⟩ := pullD_elim h
  obtain rfl := tup_inj e0
  exact thrustBound_M_ok ka ca kb cb tol h0
theorem m_29_eq (ka : Nat) (ca : List D) (kb : Nat) (cb : List D) (tol : Int) : m_29 [.agg [.list ka ca, .list kb cb], iD tol] = thrustBound_M ka ca kb cb tol := pullD_some (ka, ca, kb, cb, tol) rfl rfl
end
end Go.Proofs.Ytbfefnfmdkgfjaa
/- Windows: bounds of a tolerance. -/
namespace Go.Proofs.Ytbfefnfmdkgfjaa
open Go.Ev Go.RowKit
set_option maxRecDepth 100000
section
/-! The range of products. -/
def mn4 (a b c d : Int) : Int := min (b * d) (min (b * c) (min (a * d) (a * c)))
def mx4 (a b c d : Int) : Int := max (b * d) (max (b * c) (max (a * d) (a * c)))
theorem lin {z c d y : Int} (h1 : c ≤ y) (h2 : y ≤ d) : min (z * c) (z * d) ≤ z * y ∧ z * y ≤ max (z * c) (z * d) := by
  rcases Int.le_total 0 z with hz | hz
  · have e1 := Int.mul_le_mul_of_nonneg_left h1 hz
    have e2 := Int.mul_le_mul_of_nonneg_left h2 hz
    omega
  · have e1 := Int.mul_le_mul_of_nonpos_left hz h1
    have e2 := Int.mul_le_mul_of_nonpos_left hz h2
    omega
theorem box {a b c d x y : Int} (h1 : a ≤ x) (h2 : x ≤ b) (h3 : c ≤ y) (h4 : y ≤ d) : mn4 a b c d ≤ x * y ∧ x * y ≤ mx4 a b c d := by
  have e1 := lin (z := a) h3 h4
  have e2 := lin (z := b) h3 h4
  have e3 := lin (z := y) h1 h2
  rw [Int.mul_comm y a, Int.mul_comm y b, Int.mul_comm y x] at e3
  unfold mn4 mx4
  omega
theorem box_size {a b c d A B : Int} (h1 : -A ≤ a ∧ a ≤ A) (h2 : -A ≤ b ∧ b ≤ A) (h3 : -B ≤ c ∧ c ≤ B) (h4 : -B ≤ d ∧ d ≤ B) : -(A * B) ≤ mn4 a b c d ∧ mn4 a b c d ≤ A * B ∧ -(A * B) ≤ mx4 a b c d ∧ mx4 a b c d ≤ A * B := by
  have e1 := mulB h1.1 h1.2 h3.1 h3.2
  have e2 := mulB h1.1 h1.2 h4.1 h4.2
  have e3 := mulB h2.1 h2.2 h3.1 h3.2
  have e4 := mulB h2.1 h2.2 h4.1 h4.2
  unfold mn4 mx4
  omega
/-! What is known of a level's ampere turns and residuals, of the thrusts. -/
def du (e : Int) (k : Nat) : Int := 2 * e * ((k : Int) + k + 1)
def pn (t a b : List Int) (e : Int) (k : Nat) : Int := mn4 (at' t k - e) (at' t k + e) (rs a b k + rs a b (k + 1) - du e k) (rs a b k + rs a b (k + 1) + du e k)
def px (t a b : List Int) (e : Int) (k : Nat) : Int := mx4 (at' t k - e) (at' t k + e) (rs a b k + rs a b (k + 1) - du e k) (rs a b k + rs a b (k + 1) + du e k)
def lo (t a b : List Int) (e : Int) (k : Nat) : Int := sumTo (pn t a b e) k
def hi (t a b : List Int) (e : Int) (k : Nat) : Int := sumTo (px t a b e) k
def bd (t a b : List Int) (e : Int) : Nat → Int
  | 0 => 0
  | k + 1 => max (max (bd t a b e k) (hi t a b e (k + 1))) (-lo t a b e (k + 1))
theorem sumTo_mono {f g : Nat → Int} : ∀ {k : Nat}, (∀ i, i < k → f i ≤ g i) → sumTo f k ≤ sumTo g k
  | 0, _ => Int.le_refl _
  | k + 1, h => by
    have h1 := sumTo_mono (k := k) fun i hi => h i (by omega)
    have h2 := h k (by omega)
    simp only [sumTo]; omega
theorem du_nonneg {e : Int} (h : 0 ≤ e) (k : Nat) : 0 ≤ du e k := Int.mul_nonneg (by omega) (by omega)
theorem du_mono {e e' : Int} (h : e ≤ e') (k : Nat) : du e k ≤ du e' k := Int.mul_le_mul_of_nonneg_right (by omega) (by omega)
theorem du_le {e : Int} (h0 : 0 ≤ e) (h : e ≤ 20) {k : Nat} (hk : k < 16) : du e k ≤ 1300 := by
  have h1 : du e k ≤ du 20 k := du_mono h k
  have h2 : du 20 k = 40 * ((k : Int) + k + 1) := rfl
  omega
theorem p_bound {a b : List Int} (h : Win a b) {t : List Int} (ht : ∀ i, -100 ≤ at' t i ∧ at' t i ≤ 100) {e : Int} (h0 : 0 ≤ e) (he : e ≤ 20) {k : Nat} (hk : k < 16) : -1200000 ≤ pn t a b e k ∧ pn t a b e k ≤ 1200000 ∧ -1200000 ≤ px t a b e k ∧ px t a b e k ≤ 1200000 := by
  have h1 := rs_bound h (k := k) (by omega)
  have h2 := rs_bound h (k := k + 1) (by omega)
  have h3 := ht k
  have h4 := du_le h0 he hk
  have h5 := du_nonneg h0 k
  exact box_size (A := 120) (B := 10000) (by omega) (by omega) (by omega) (by omega)
theorem lohi_bound {a b : List Int} (h : Win a b) {t : List Int} (ht : ∀ i, -100 ≤ at' t i ∧ at' t i ≤ 100) {e : Int} (h0 : 0 ≤ e) (he : e ≤ 20) {k : Nat} (hk : k ≤ 16) : -20000000 ≤ lo t a b e k ∧ lo t a b e k ≤ 20000000 ∧ -20000000 ≤ hi t a b e k ∧ hi t a b e k ≤ 20000000 := by
  have e1 := sumTo_bound (f := pn t a b e) (B := 1200000) (k := k) fun i hi => by have := p_bound h ht h0 he (k := i) (by omega); omega
  have e2 := sumTo_bound (f := px t a b e) (B := 1200000) (k := k) fun i hi => by have := p_bound h ht h0 he (k := i) (by omega); omega
  unfold lo hi
  omega
theorem bd_bound {a b : List Int} (h : Win a b) {t : List Int} (ht : ∀ i, -100 ≤ at' t i ∧ at' t i ≤ 100) {e : Int} (h0 : 0 ≤ e) (he : e ≤ 20) : ∀ {k : Nat}, k ≤ 16 → 0 ≤ bd t a b e k ∧ bd t a b e k ≤ 20000000
  | 0, _ => by simp [bd]
  | k + 1, hk => by
    have h1 := bd_bound h ht h0 he (k := k) (by omega)
    have h2 := lohi_bound h ht h0 he hk
    unfold bd
    omega
end
/-! The program's bounds. -/
section
variable {a b : List Int}
theorem around_eq {n m : Int} (h1 : -1000000000000 ≤ n ∧ n ≤ 1000000000000) (h2 : -1000000000000 ≤ m ∧ m ≤ 1000000000000) : m_72 [iD n, iD m] = some (.agg [iD (n - m), iD (n + m)]) := by
  rw [m_72_eq]
  unfold around_M
  rw [wrapJ (n - m) (by omega) (by omega), wrapJ (n + m) (by omega) (by omega)]
theorem plus_eq {a b c d : Int} (h1 : -1000000000000 ≤ a ∧ a ≤ 1000000000000) (h2 : -1000000000000 ≤ b ∧ b ≤ 1000000000000) (h3 : -1000000000000 ≤ c ∧ c ≤ 1000000000000) (h4 : -1000000000000 ≤ d ∧ d ≤ 1000000000000) :
    m_73 [.agg [iD a, iD b], .agg [iD c, iD d]] = some (.agg [iD (a + c), iD (b + d)]) := by
  rw [m_73_eq]
  unfold plus_M
  rw [wrapJ (a + c) (by omega) (by omega), wrapJ (b + d) (by omega) (by omega)]
theorem times_eq {a b c d : Int} (h1 : -1000 ≤ a ∧ a ≤ 1000) (h2 : -1000 ≤ b ∧ b ≤ 1000) (h3 : -1000000 ≤ c ∧ c ≤ 1000000) (h4 : -1000000 ≤ d ∧ d ≤ 1000000) :
    m_74 [.agg [iD a, iD b], .agg [iD c, iD d]] = some (.agg [iD (mn4 a b c d), iD (mx4 a b c d)]) := by
  rw [m_74_eq]
  unfold times_M
  have e1 := mulB (A := 1000) (B := 1000000) h1.1 h1.2 h3.1 h3.2
  have e2 := mulB (A := 1000) (B := 1000000) h1.1 h1.2 h4.1 h4.2
  have e3 := mulB (A := 1000) (B := 1000000) h2.1 h2.2 h3.1 h3.2
  have e4 := mulB (A := 1000) (B := 1000000) h2.1 h2.2 h4.1 h4.2
  rw [wrapJ (a * c) (by omega) (by omega), wrapJ (a * d) (by omega) (by omega), wrapJ (b * c) (by omega) (by omega), wrapJ (b * d) (by omega) (by omega)]
  have lt : ∀ x y : Int, (if x < y then x else y) = min x y := fun x y => by split <;> omega
  have gt : ∀ x y : Int, (if x > y then x else y) = max x y := fun x y => by split <;> omega
  rw [lt (a * d) (a * c), lt, lt, gt (a * d) (a * c), gt, gt]
  rfl
theorem max_eq (r s m : Int) : (if r > if s > m then s else m then r else if s > m then s else m) = max (max m s) r := by
  split <;> split <;> omega
/-- One winding's rounds. -/
theorem bounds_go (h : Win a b) {t : List Int} (hlt : t.length = a.length) (ht : ∀ i, -100 ≤ at' t i ∧ at' t i ≤ 100) {e : Int} (h0 : 0 ≤ e) (he : e ≤ 20) (S : Rd → Option Rd) (enc : Int → Int → Int → Int → Int → List D) (out : Int → Int → Int → List D)
    (hS : ∀ (i m l u : Int), S (.next 0 (enc i m l u 0)) = (if i < (t.length : Int) then guardP ((0 : Int) ≤ i ∧ i.toNat < t.length) (pullD (α := Int) (readD (t.map iD) (i.toNat * 1) 1 false) (fun d => D.vi d) (fun v0 => iD v0) fun v0 => guardP ((0 : Int) ≤ i ∧ i.toNat < a.length + 1) (pullD (α := Int) (readD ((tab (a.length + 1) (rs a b)).map iD) (i.toNat * 1) 1 false) (fun d => D.vi d) (fun v1 => iD v1) fun v1 =>
      guardP ((0 : Int) ≤ IntKind.i64.wrap (i + 1) ∧ (IntKind.i64.wrap (i + 1)).toNat < a.length + 1) (pullD (α := Int) (readD ((tab (a.length + 1) (rs a b)).map iD) ((IntKind.i64.wrap (i + 1)).toNat * 1) 1 false) (fun d => D.vi d) (fun v2 => iD v2) fun v2 =>
      pullD (α := Int × Int) (m_72 [iD (IntKind.i64.wrap (v1 + v2)), iD (IntKind.i64.wrap (IntKind.i64.wrap (2 * e) * IntKind.i64.wrap (IntKind.i64.wrap (i + i) + 1)))]) (fun d => (D.vi (D.at d 0), D.vi (D.at d 1))) (fun (r3, r4) => .agg [iD r3, iD r4]) fun (r3, r4) =>
      pullD (α := Int × Int) (m_72 [iD v0, iD e]) (fun d => (D.vi (D.at d 0), D.vi (D.at d 1))) (fun (r5, r6) => .agg [iD r5, iD r6]) fun (r5, r6) =>
      pullD (α := Int × Int) (m_74 [.agg [iD r5, iD r6], .agg [iD r3, iD r4]]) (fun d => (D.vi (D.at d 0), D.vi (D.at d 1))) (fun (r7, r8) => .agg [iD r7, iD r8]) fun (r7, r8) =>
      pullD (α := Int × Int) (m_73 [.agg [iD l, iD u], .agg [iD r7, iD r8]]) (fun d => (D.vi (D.at d 0), D.vi (D.at d 1))) (fun (r9, r10) => .agg [iD r9, iD r10]) fun (r9, r10) =>
      some (.next 0 (enc (IntKind.i64.wrap (i + 1)) (if IntKind.i64.wrap (0 - r9) > if r10 > m then r10 else m then IntKind.i64.wrap (0 - r9) else if r10 > m then r10 else m) r9 r10 0))))) else some (.out 0 (out m l u)))) :
    runR S (.next 0 (enc 0 0 0 0 0)) = some (.out 0 (out (bd t a b e a.length) (lo t a b e a.length) (hi t a b e a.length))) := by
  have hle := h.le
  have h1 : runR S (.next 0 (enc 0 0 0 0 0)) = _ := runR_scan (S := S) (fun _ => 0) (fun i => enc (i : Int) (bd t a b e i) (lo t a b e i) (hi t a b e i) 0) (Nat.zero_le a.length) (fun i _ hi' => by
    have b1 := rs_bound h (k := i) (by omega)
    have b2 := rs_bound h (k := i + 1) (by omega)
    have b3 := ht i
    have b4 := du_le h0 he (k := i) (by omega)
    have b5 := du_nonneg h0 i
    have b6 := p_bound h ht h0 he (k := i) (by omega)
    have b7 := lohi_bound h ht h0 he (k := i) (by omega)
    have b8 := lohi_bound h ht h0 he (k := i + 1) (by omega)
    have b9 := bd_bound h ht h0 he (k := i) (by omega)
    show S (.next 0 _) = _
    rw [hS]
    have e2 : IntKind.i64.wrap ((i : Int) + 1) = ((i + 1 : Nat) : Int) := natI (by omega)
    have e3 : IntKind.i64.wrap (IntKind.i64.wrap (2 * e) * IntKind.i64.wrap (IntKind.i64.wrap ((i : Int) + i) + 1)) = du e i := by
      rw [wrapJ (2 * e) (by omega) (by omega), wrapJ ((i : Int) + i) (by omega) (by omega), wrapJ ((i : Int) + i + 1) (by omega) (by omega)]
      exact wrapJ _ (by unfold du at b5; omega) (by unfold du at b4; omega)
    simp only [e2, e3, Int.toNat_natCast]
    rw [if_pos (by omega), guardP_pos (by omega), readN (by omega), pullD_some (at' t i) (by rfl) (by rfl), guardP_pos (by omega), readM _ (by omega), pullD_some (rs a b i) (by rfl) (by rfl), guardP_pos (by omega), readM _ (by omega), pullD_some (rs a b (i + 1)) (by rfl) (by rfl), wrapJ (rs a b i + rs a b (i + 1)) (by omega) (by omega),
      around_eq (by omega) (by omega), pullD_some (rs a b i + rs a b (i + 1) - du e i, rs a b i + rs a b (i + 1) + du e i) (by rfl) (by rfl)]
    dsimp only
    rw [around_eq (by omega) (by omega), pullD_some (at' t i - e, at' t i + e) (by rfl) (by rfl)]
    dsimp only
    rw [times_eq (by omega) (by omega) (by omega) (by omega), pullD_some (pn t a b e i, px t a b e i) (by rfl) (by rfl)]
    dsimp only
    rw [plus_eq (by omega) (by omega) (by omega) (by omega), pullD_some (lo t a b e i + pn t a b e i, hi t a b e i + px t a b e i) (by rfl) (by rfl)]
    dsimp only
    have e5 : lo t a b e i + pn t a b e i = lo t a b e (i + 1) := rfl
    have e6 : hi t a b e i + px t a b e i = hi t a b e (i + 1) := rfl
    have e7 : bd t a b e (i + 1) = max (max (bd t a b e i) (hi t a b e (i + 1))) (-lo t a b e (i + 1)) := rfl
    rw [e5, e6, max_eq, wrapJ (0 - lo t a b e (i + 1)) (by omega) (by omega), Int.zero_sub, e7])
  refine h1.trans (runR_exit ?_)
  rw [hS, if_neg (by omega)]
end
end Go.Proofs.Ytbfefnfmdkgfjaa
namespace Go.Proofs.Ytbfefnfmdkgfjaa
open Go.Ev Go.RowKit
set_option maxRecDepth 100000
set_option maxHeartbeats 8000000
set_option linter.all false
noncomputable section
end
end Go.Proofs.Ytbfefnfmdkgfjaa
/- For all tolerances: the law. -/
namespace Go.Proofs.Ytbfefnfmdkgfjaa
open Go.Ev Go.RowKit
set_option maxRecDepth 100000
noncomputable section
end
section
variable {a b c d : List Int}
theorem bounds_eq (h : Win a b) {e : Int} (h0 : 0 ≤ e) (he : e ≤ 20) : m_60 [wnD a b, iD e] = some (.agg [iD (bd a a b e a.length), iD (bd b a b e a.length)]) := by
  rw [m_60_eq]
  unfold bounds_M
  rw [show [D.agg [D.list a.length (a.map iD), D.list b.length (b.map iD)]] = [wnD a b] from rfl, residuals_eq h, pullD_some (a.length + 1, (tab (a.length + 1) (rs a b)).map iD) (by simp only [lD, tab_len]) (by rfl)]
  dsimp only
  have g1 := bounds_go h rfl h.ra h0 he (bounds_L8_S a.length (a.map iD) b.length (b.map iD) e (a.length + 1) ((tab (a.length + 1) (rs a b)).map iD)) (fun i m l u _ => [iD i, iD m, iD 0, iD l, iD u]) (fun m l u => [iD m, iD 0, iD l, iD u]) (fun i m l u => by
    show bounds_L8_S0 a.length (a.map iD) b.length (b.map iD) e (a.length + 1) ((tab (a.length + 1) (rs a b)).map iD) _ = _
    unfold bounds_L8_S0
    rw [pullD_some (i, m, 0, l, u) (by rfl) (by rfl)])
  rw [bindL_some g1, if_pos rfl, pullD_some (bd a a b e a.length, 0, lo a a b e a.length, hi a a b e a.length) (by rfl) (by rfl)]
  dsimp only
  have g2 := bounds_go h h.len h.rb h0 he (bounds_L8_1_S a.length (a.map iD) b.length (b.map iD) e (a.length + 1) ((tab (a.length + 1) (rs a b)).map iD) (bd a a b e a.length) 0 (lo a a b e a.length) (hi a a b e a.length)) (fun i m l u _ => [iD i, iD (bd a a b e a.length), iD m, iD l, iD u]) (fun m l u => [iD (bd a a b e a.length), iD m, iD l, iD u]) (fun i m l u => by
    show bounds_L8_1_S0 a.length (a.map iD) b.length (b.map iD) e (a.length + 1) ((tab (a.length + 1) (rs a b)).map iD) (bd a a b e a.length) 0 (lo a a b e a.length) (hi a a b e a.length) _ = _
    unfold bounds_L8_1_S0
    rw [pullD_some (i, bd a a b e a.length, m, l, u) (by rfl) (by rfl)])
  rw [bindL_some g2, if_pos rfl, pullD_some (bd a a b e a.length, bd b a b e a.length, lo b a b e a.length, hi b a b e a.length) (by rfl) (by rfl)]
theorem thrustBound_eq (h : Win a b) {e : Int} (h0 : 0 ≤ e) (he : e ≤ 20) : m_29 [wnD a b, iD e] = some (.tup [.agg [iD (bd a a b e a.length), iD (bd b a b e a.length)], iD 0]) := by
  rw [m_29_eq]
  unfold thrustBound_M
  rw [show [D.agg [D.list a.length (a.map iD), D.list b.length (b.map iD)]] = [wnD a b] from rfl, chkd_eq h, pullD_some (a.length, a.map iD, b.length, b.map iD, 0) (by rfl) (by rfl)]
  dsimp only
  rw [if_neg (by omega), if_neg (by omega), show [D.list 2 [iD 0, iD 0]] = [lD [0, 0]] from rfl, first_eq _ (by decide), pullD_some (0 : Int) (by rfl) (by rfl), if_neg (by decide), show [D.agg [D.list a.length (a.map iD), D.list b.length (b.map iD)], iD e] = [wnD a b, iD e] from rfl, bounds_eq h h0 he, pullD_some (bd a a b e a.length, bd b a b e a.length) (by rfl) (by rfl)]
end
end Go.Proofs.Ytbfefnfmdkgfjaa
/- Windows: what is checked, valid or not. -/
namespace Go.Proofs.Ytbfefnfmdkgfjaa
open Go.Ev Go.RowKit
set_option maxRecDepth 100000
section
variable {a b : List Int}
abbrev inB (l : List Int) : Bool := allIn (-100) 100 l
/-- The error of a window. -/
def winE (a b : List Int) : Int :=
  if a.length ≠ b.length ∨ a.length = 0 then 10 else if a.length > 15 then 8 else if inB a = false then 2 else if inB b = false then 2
  else if sumTo (at' a) a.length + sumTo (at' b) a.length ≠ 0 then 13 else 0
theorem inB_all {l : List Int} (h : inB l = true) : ∀ i, -100 ≤ at' l i ∧ at' l i ≤ 100 := range_all fun j _ hj => allIn_at h hj
theorem winE_zero (h : winE a b = 0) : Win a b := by
  unfold winE at h
  split at h
  · cases h
  rename_i h1
  split at h
  · cases h
  rename_i h2
  split at h
  · cases h
  rename_i h3
  split at h
  · cases h
  rename_i h4
  split at h
  · cases h
  rename_i h5
  exact ⟨by omega, by omega, by omega, inB_all (by simpa using h3), inB_all (by simpa using h4), by omega⟩
theorem winE_ok (e0 : ¬ (a.length ≠ b.length ∨ a.length = 0)) (e1 : ¬ a.length > 15) (ha : inB a = true) (hb : inB b = true) : winE a b = if sumTo (at' a) a.length + sumTo (at' b) a.length ≠ 0 then 13 else 0 := by
  unfold winE
  rw [if_neg e0, if_neg e1, if_neg (show ¬ inB a = false by rw [ha]; decide), if_neg (show ¬ inB b = false by rw [hb]; decide)]
theorem winE_b (e0 : ¬ (a.length ≠ b.length ∨ a.length = 0)) (e1 : ¬ a.length > 15) (ha : inB a = true) (hb : inB b = false) : winE a b = 2 := by
  unfold winE
  rw [if_neg e0, if_neg e1, if_neg (show ¬ inB a = false by rw [ha]; decide), if_pos hb]
theorem winE_a (e0 : ¬ (a.length ≠ b.length ∨ a.length = 0)) (e1 : ¬ a.length > 15) (ha : inB a = false) : winE a b = 2 := by
  unfold winE
  rw [if_neg e0, if_neg e1, if_pos ha]
theorem winE_8 (e0 : ¬ (a.length ≠ b.length ∨ a.length = 0)) (e1 : a.length > 15) : winE a b = 8 := by
  unfold winE
  rw [if_neg e0, if_pos e1]
theorem winE_10 (e0 : a.length ≠ b.length ∨ a.length = 0) : winE a b = 10 := by
  unfold winE
  rw [if_pos e0]
theorem err_scan (l : List Int) (hl : l.length ≤ 1000) (kk : Nat) (cc : List D) (S : Rd → Option Rd) (hS : ∀ ds, S (.next 0 ds) = winErr_L7_S0 l.length (l.map iD) kk cc ds) (m : Nat) : ∀ (i : Nat) (s : Int), i + m = l.length → -(1000000 - 100 * (m : Int)) ≤ s → s ≤ 1000000 - 100 * (m : Int) →
    runR S (.next 0 [iD s, iD (i : Int)]) = if inB (l.drop i) = true then some (.out 0 [iD (s + sumTo (at' l) l.length - sumTo (at' l) i)]) else some (.out 1 [iD 2]) := by
  induction m with
  | zero =>
    intro i s him h1 h2
    have : i = l.length := by omega
    subst this
    rw [List.drop_of_length_le (Nat.le_refl _), if_pos (show inB [] = true from rfl)]
    refine runR_exit ?_
    rw [hS]
    unfold winErr_L7_S0
    rw [pullD_some (s, (l.length : Int)) (by rfl) (by rfl)]
    dsimp only
    rw [if_neg (by omega), show s + sumTo (at' l) l.length - sumTo (at' l) l.length = s by omega]
  | succ m ih =>
    intro i s him h1 h2
    have hi : i < l.length := by omega
    have hd : l.drop i = at' l i :: l.drop (i + 1) := by
      rw [List.drop_eq_getElem_cons hi]
      congr 1
      unfold at'
      rw [List.getElem?_eq_getElem hi]; rfl
    have e : inB (l.drop i) = (decide (-100 ≤ at' l i ∧ at' l i ≤ 100) && inB (l.drop (i + 1))) := by
      rw [hd]; rfl
    have hstep : S (.next 0 [iD s, iD (i : Int)]) = if -100 ≤ at' l i ∧ at' l i ≤ 100 then some (.next 0 [iD (s + at' l i), iD ((i + 1 : Nat) : Int)]) else some (.out 1 [iD 2]) := by
      rw [hS]
      unfold winErr_L7_S0
      rw [pullD_some (s, (i : Int)) (by rfl) (by rfl)]
      dsimp only
      rw [if_pos (by omega), guardP_pos (by omega), readA hi, pullD_some (at' l i) (by rfl) (by rfl), within_eq, pullB, pullD_some (at' l i) (by rfl) (by rfl)]
      by_cases h : -100 ≤ at' l i ∧ at' l i ≤ 100
      · rw [if_pos h, if_neg (by simp [h]), natI (by omega), wrapJ (s + at' l i) (by omega) (by omega)]
      · rw [if_neg h, if_pos (by simpa using h)]
    by_cases h : -100 ≤ at' l i ∧ at' l i ≤ 100
    · rw [if_pos h] at hstep
      rw [runR_next hstep, ih (i + 1) (s + at' l i) (by omega) (by omega) (by omega), e, decide_eq_true h, Bool.true_and]
      have : sumTo (at' l) (i + 1) = sumTo (at' l) i + at' l i := rfl
      rw [show s + at' l i + sumTo (at' l) l.length - sumTo (at' l) (i + 1) = s + sumTo (at' l) l.length - sumTo (at' l) i by omega]
    · rw [if_neg h] at hstep
      rw [e, decide_eq_false h, Bool.false_and, if_neg (by decide)]
      exact runR_exit hstep
theorem err_scan0 (l : List Int) (hl : l.length ≤ 1000) (kk : Nat) (cc : List D) (S : Rd → Option Rd) (hS : ∀ ds, S (.next 0 ds) = winErr_L7_S0 l.length (l.map iD) kk cc ds) (s : Int) (h1 : -100000 ≤ s) (h2 : s ≤ 100000) :
    runR S (.next 0 [iD s, iD 0]) = if inB l = true then some (.out 0 [iD (s + sumTo (at' l) l.length)]) else some (.out 1 [iD 2]) := by
  have h := err_scan l hl kk cc S hS l.length 0 s (by omega) (by omega) (by omega)
  simp only [Int.natCast_zero, sumTo, Int.sub_zero, List.drop_zero] at h
  exact h
theorem winErr_all (a b : List Int) : m_16 [wnD a b] = some (iD (winE a b)) := by
  rw [m_16_eq]
  unfold winErr_M
  by_cases h0 : (a.length : Int) = 0
  · rw [if_pos h0, winE_10 (.inr (by omega))]
  rw [if_neg h0]
  by_cases h1 : (b.length : Int) ≠ (a.length : Int)
  · rw [if_pos h1, winE_10 (.inl (by omega))]
  rw [if_neg h1]
  have e0 : ¬ (a.length ≠ b.length ∨ a.length = 0) := by omega
  by_cases h2 : (a.length : Int) > 15
  · rw [if_pos h2, winE_8 e0 (by omega)]
  rw [if_neg h2]
  have e1 : ¬ a.length > 15 := by omega
  have h3 := err_scan0 a (by omega) b.length (b.map iD) (winErr_L7_S a.length (a.map iD) b.length (b.map iD)) (fun _ => rfl) 0 (by omega) (by omega)
  cases ha : inB a with
  | false =>
    rw [ha, if_neg (by decide)] at h3
    rw [bindL_some h3, if_neg (by decide), if_pos rfl, pullD_some (2 : Int) (by rfl) (by rfl)] 
    rw [winE_a e0 e1 ha]
  | true =>
    rw [ha, if_pos rfl] at h3
    rw [bindL_some h3, if_pos rfl, Int.zero_add, pullD_some (sumTo (at' a) a.length) (by rfl) (by rfl)]
    have hra := inB_all ha
    have hs := sumTo_bound (f := at' a) (B := 100) (k := a.length) fun i _ => hra i
    have h5 := err_scan0 b (by omega) a.length (a.map iD) (winErr_L13_S a.length (a.map iD) b.length (b.map iD) (sumTo (at' a) a.length)) (fun _ => rfl) (sumTo (at' a) a.length) (by omega) (by omega)
    have e2 : b.length = a.length := by omega
    cases hb : inB b with
    | false =>
      rw [hb, if_neg (by decide)] at h5
      rw [bindL_some h5, if_neg (by decide), if_pos rfl, pullD_some (2 : Int) (by rfl) (by rfl)]
      rw [winE_b e0 e1 ha hb]
    | true =>
      rw [hb, if_pos rfl, e2] at h5
      rw [e2, bindL_some h5, if_pos rfl, pullD_some (sumTo (at' a) a.length + sumTo (at' b) a.length) (by rfl) (by rfl)]
      rw [winE_ok e0 e1 ha hb]
      by_cases h7 : sumTo (at' a) a.length + sumTo (at' b) a.length ≠ 0
      · rw [if_pos h7, if_pos h7]
      · rw [if_neg h7, if_neg h7]
theorem chk_scan (l : List Int) (hl : l.length ≤ 1000) (kk : Nat) (cc : List D) (S : Rd → Option Rd) (hS : ∀ ds, S (.next 0 ds) = chkWindow_L71_2_S0 l.length (l.map iD) kk cc ds) : runR S (.next 0 [iD 0]) = if inB l = true then some (.out 0 []) else some (.out 1 [iD 2]) := by
  refine scanIn l (-100) 100 S _ (fun _ _ h => by cases h) (fun i hi => ?_) ?_
  · rw [hS]
    unfold chkWindow_L71_2_S0
    rw [pullD_some (i : Int) (by rfl) (by rfl), if_pos (by omega), guardP_pos (by omega), readA hi, pullD_some (at' l i) (by rfl) (by rfl), natI (by omega)]
    by_cases h : -100 ≤ at' l i ∧ at' l i ≤ 100
    · rw [if_pos h, if_neg (by omega), if_neg (by omega)]
    · rw [if_neg h]
      by_cases h1 : at' l i < -100
      · rw [if_pos h1]
      · rw [if_neg h1, if_pos (by omega)]
  · rw [hS]
    unfold chkWindow_L71_2_S0
    rw [pullD_some (l.length : Int) (by rfl) (by rfl), if_neg (by omega)]
theorem count_all (n : Int) : ∃ r, m_51 [iD n, iD 15] = some (iD r) ∧ r = if n < 1 then 10 else if n > 15 then 8 else 0 := by
  rw [m_51_eq]
  unfold chkCount_M
  by_cases h : n < 1
  · rw [if_pos h, if_pos h]; exact ⟨_, rfl, rfl⟩
  · rw [if_neg h, if_neg h]
    by_cases h2 : n > 15
    · rw [if_pos h2, if_pos h2]; exact ⟨_, rfl, rfl⟩
    · rw [if_neg h2, if_neg h2]; exact ⟨_, rfl, rfl⟩
theorem sb {l : List Int} (hl : l.length ≤ 1000) (hr : ∀ i, -100 ≤ at' l i ∧ at' l i ≤ 100) : m_52 [.list l.length (l.map iD)] = some (iD (sumTo (at' l) l.length)) := sum_eq l hl fun k hk => by
  have := sumTo_bound (f := at' l) (B := 100) (k := k) fun i _ => hr i
  omega
theorem first3 (x y z : Int) : m_47 [.list 3 [iD x, iD y, iD z]] = some (iD (if x ≠ 0 then x else if y ≠ 0 then y else z)) := by
  rw [show [D.list 3 [iD x, iD y, iD z]] = [lD [x, y, z]] from rfl, first_eq _ (by simp)]
  congr 2
  by_cases h1 : x ≠ 0
  · rw [if_pos h1]; simp [h1]
  · have h1 : x = 0 := by omega
    subst h1
    by_cases h2 : y ≠ 0
    · rw [if_neg (by decide), if_pos h2]; simp [h2]
    · have h2 : y = 0 := by omega
      subst h2
      by_cases h3 : z ≠ 0
      · simp [h3]
      · have h3 : z = 0 := by omega
        subst h3; rfl
theorem first2 (x y : Int) : m_47 [.list 2 [iD x, iD y]] = some (iD (if x ≠ 0 then x else y)) := by
  rw [show [D.list 2 [iD x, iD y]] = [lD [x, y]] from rfl, first_eq _ (by simp)]
  congr 2
  by_cases h1 : x ≠ 0
  · rw [if_pos h1]; simp [h1]
  · have h1 : x = 0 := by omega
    subst h1
    by_cases h2 : y ≠ 0
    · simp [h2]
    · have h2 : y = 0 := by omega
      subst h2; rfl
theorem chkWindow_all (a b : List Int) (hla : a.length ≤ 1000) (hlb : b.length ≤ 1000) : m_17 [wnD a b] = some (iD (winE a b)) := by
  rw [m_17_eq]
  unfold chkWindow_M
  by_cases h0 : (a.length : Int) ≠ (b.length : Int)
  · rw [if_pos h0, winE_10 (.inl (by omega))]
  rw [if_neg h0]
  obtain ⟨r, hr, hr2⟩ := count_all (a.length : Int)
  rw [hr, pullD_some r (by rfl) (by rfl)]
  have h1 := chk_scan a hla b.length (b.map iD) (chkWindow_L71_2_S a.length (a.map iD) b.length (b.map iD)) (fun _ => rfl)
  have h2 := chk_scan b hlb a.length (a.map iD) (chkWindow_L71_2_1_S a.length (a.map iD) b.length (b.map iD)) (fun _ => rfl)
  have hlen : b.length = a.length := by omega
  -- what comes of the three checks
  have hE : ∀ x y : Int, x = (if inB a = true then 0 else 2) → y = (if inB b = true then 0 else 2) → (if r ≠ 0 then r else if x ≠ 0 then x else y) ≠ 0 → winE a b = (if r ≠ 0 then r else if x ≠ 0 then x else y) := by
    intro x y hx hy hne
    by_cases c1 : (a.length : Int) < 1
    · rw [if_pos c1] at hr2
      rw [winE_10 (.inr (by omega)), hr2]; rfl
    · rw [if_neg c1] at hr2
      have e0 : ¬ (a.length ≠ b.length ∨ a.length = 0) := by omega
      by_cases c2 : (a.length : Int) > 15
      · rw [if_pos c2] at hr2
        rw [winE_8 e0 (by omega), hr2]; rfl
      · rw [if_neg c2] at hr2
        have e1 : ¬ a.length > 15 := by omega
        subst hr2
        cases ha : inB a with
        | false => rw [winE_a e0 e1 ha, hx, ha]; rfl
        | true =>
          cases hb : inB b with
          | false => rw [winE_b e0 e1 ha hb, hx, hy, ha, hb]; rfl
          | true => rw [hx, hy, ha, hb] at hne; exact absurd rfl hne
  cases ha : inB a with
  | false =>
    rw [ha, if_neg (by decide)] at h1
    rw [bindL_some h1, if_neg (by decide), if_pos rfl, pullD_some (2 : Int) (by rfl) (by rfl)]
    cases hb : inB b with
    | false =>
      rw [hb, if_neg (by decide)] at h2
      have := hE 2 2 (by rw [ha]; rfl) (by rw [hb]; rfl) (by split <;> simp_all)
      rw [bindL_some h2, if_neg (by decide), if_pos rfl, pullD_some (2 : Int) (by rfl) (by rfl), first3, pullI, if_pos (by split <;> simp_all), this]
    | true =>
      rw [hb, if_pos rfl] at h2
      have := hE 2 0 (by rw [ha]; rfl) (by rw [hb]; rfl) (by split <;> simp_all)
      rw [bindL_some h2, if_pos rfl, pullD_some () (by rfl) (by rfl), first3, pullI, if_pos (by split <;> simp_all), this]
  | true =>
    rw [ha, if_pos rfl] at h1
    rw [bindL_some h1, if_pos rfl, pullD_some () (by rfl) (by rfl)]
    cases hb : inB b with
    | false =>
      rw [hb, if_neg (by decide)] at h2
      have := hE 0 2 (by rw [ha]; rfl) (by rw [hb]; rfl) (by split <;> simp_all)
      rw [bindL_some h2, if_neg (by decide), if_pos rfl, pullD_some (2 : Int) (by rfl) (by rfl), first3, pullI, if_pos (by split <;> simp_all), this]
    | true =>
      rw [hb, if_pos rfl] at h2
      rw [bindL_some h2, if_pos rfl, pullD_some () (by rfl) (by rfl), first3, pullI]
      by_cases hr0 : r ≠ 0
      · have := hE 0 0 (by rw [ha]; rfl) (by rw [hb]; rfl) (by rw [if_pos hr0]; exact hr0)
        rw [if_pos (by rw [if_pos hr0]; exact hr0), this]
      · rw [if_neg (by rw [if_neg hr0]; decide), sb hla (inB_all ha), pullI, sb hlb (inB_all hb), pullI]
        have c1 : ¬ (a.length : Int) < 1 := fun h => by rw [if_pos h] at hr2; exact hr0 (by rw [hr2]; decide)
        rw [if_neg c1] at hr2
        have c2 : ¬ (a.length : Int) > 15 := fun h => by rw [if_pos h] at hr2; exact hr0 (by rw [hr2]; decide)
        rw [winE_ok (by omega) (by omega) ha hb, hlen]
        have q1 := sumTo_bound (f := at' a) (B := 100) (k := a.length) fun i _ => inB_all ha i
        have q2 := sumTo_bound (f := at' b) (B := 100) (k := a.length) fun i _ => inB_all hb i
        rw [wrapJ (sumTo (at' a) a.length + sumTo (at' b) a.length) (by omega) (by omega)]
        by_cases h7 : sumTo (at' a) a.length + sumTo (at' b) a.length ≠ 0
        · rw [if_pos h7, if_pos h7]
        · rw [if_neg h7, if_neg h7]
/-! What comes back from a window that is refused. -/
abbrev noF : D := .agg [.list 0 [], .list 0 []]
theorem chkd_bad (hla : a.length ≤ 1000) (hlb : b.length ≤ 1000) (h : winE a b ≠ 0) : m_40 [wnD a b] = some (.tup [noF, iD (winE a b)]) := by
  rw [m_40_eq]
  unfold chkdWindow_M
  rw [show [D.agg [D.list a.length (a.map iD), D.list b.length (b.map iD)]] = [wnD a b] from rfl, chkWindow_all a b hla hlb, pullI, if_pos h]
end
end Go.Proofs.Ytbfefnfmdkgfjaa
