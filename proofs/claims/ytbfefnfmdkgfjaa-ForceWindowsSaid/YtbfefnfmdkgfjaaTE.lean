import Derived.Test.YtbfefnfmdkgfjaaTD
set_option linter.unusedVariables false
set_option linter.unusedSimpArgs false
set_option linter.unusedSectionVars false
set_option linter.unnecessarySimpa false
namespace Go.Proofs.Ytbfefnfmdkgfjaa
open Go.Ev Go.RowKit
set_option maxRecDepth 100000
set_option maxHeartbeats 8000000
set_option linter.all false
noncomputable section
def firstOf_x2_0 : LExit := ⟨some 0, [], (2 :: (4 :: (List.range' 7 8)))⟩
def firstOf_x2_1 : LExit := ⟨none, [.val 2], (4 :: (List.range' 7 8))⟩
def firstOf_sp : List LSpec := [⟨47, 2, [firstOf_x2_0, firstOf_x2_1]⟩]
def firstOf_L2_E (k : Nat) (c : List D)  : List AV × AHeap := ([.dsl 0, .pure (.tuple #[]), .pure (.int .i64 (0 : Int)), .pure (.tuple #[]), .pure (.tuple #[]), .dsl 0, .pure (.int .i64 (k : Int)), .pure (.int .i64 (0 : Int)), .pure (.tuple #[]), .pure (.tuple #[]), .pure (.tuple #[]), .pure (.tuple #[]), .pure (.tuple #[]), .pure (.tuple #[]), .pure (.tuple #[])], [(0, { cells := [], opn := none, kind := .deep k c })])
def firstOf_L2_A : LoopAt := ⟨47, loopAt Try.prog 47 0, 1, 11, 1, noFrame⟩
theorem firstOf_L2_ok : (firstOf_L2_A).OK := ⟨by show 1 ≤ 11; decide, by show 1 ≤ 1; decide, by kernel_rfl, rfl⟩
def firstOf_L2_gs (k : Nat) (c : List D)  : Go.Ev.Rd → Option GS
  | .next 0 ds => ghost [.val 7] (2 :: (4 :: (List.range' 8 7))) (firstOf_L2_E k c).1 (firstOf_L2_E k c).2 1 ds
  | .out 0 ds => ghost firstOf_x2_0.live firstOf_x2_0.junk (firstOf_L2_E k c).1 (firstOf_L2_E k c).2 1 ds
  | .out 1 ds => ghost firstOf_x2_1.live firstOf_x2_1.junk (firstOf_L2_E k c).1 (firstOf_L2_E k c).2 1 ds
  | _ => none
def firstOf_L2_ex : Nat → Option Nat
  | 0 => firstOf_x2_0.ex
  | 1 => firstOf_x2_1.ex
  | _ => none
def firstOf_L2_ax : Go.Ev.Rd → AX
  | .next _ _ => .normal
  | .out j _ => axOf (firstOf_L2_ex j)
def firstOf_L2_S0 (k : Nat) (c : List D)  (ds : List D) : Option Go.Ev.Rd := pullD (α := Int) (some (.tup ds)) (fun d => ((D.vi (D.at d 0)))) (fun s7 => .tup [iD s7]) fun s7 => ((if s7 < (k : Int) then guardP ((0 : Int) ≤ s7 ∧ s7.toNat < k) (pullD (α := Int) (readD c (s7.toNat * 1) 1 false) (fun d => ((D.vi d))) (fun v0 => iD v0) fun v0 => ((if v0 ≠ (0 : Int) then some (.out 1 [iD v0]) else some (.next 0 [iD (IntKind.i64.wrap (s7 + (1 : Int)))])))) else some (.out 0 [])))
def firstOf_L2_S (k : Nat) (c : List D)  : Go.Ev.Rd → Option Go.Ev.Rd
  | .next 0 ds => firstOf_L2_S0 k c ds
  | _ => none
theorem firstOf_L2_S_ok (k : Nat) (c : List D)  : ∀ s_ t_, firstOf_L2_S k c s_ = some t_ → Step (ctx [47] firstOf_sp) Tabs firstOf_L2_A (stateOf (firstOf_L2_gs k c s_)) (stateOf (firstOf_L2_gs k c t_)) (firstOf_L2_ax t_) ∧ EndOK firstOf_L2_A.nx firstOf_L2_A.low (firstOf_L2_gs k c) t_
  | .next 0 ds, t_, h => by
    have h_ : firstOf_L2_S0 k c ds = some t_ := h
    clear h
    unfold firstOf_L2_S0 at h_
    obtain ⟨s7, e0, h0⟩ := pullD_elim h_
    clear h_
    obtain rfl := tup_inj e0
    by_cases b1_ : s7 < (k : Int)
    · have h2_ := (if_pos b1_).symm.trans h0
      obtain ⟨f3_, h4_⟩ := guardP_elim h2_
      obtain ⟨v0, f5_, h6_⟩ := pullD_elim h4_
      replace f5_ := readD_elim f5_
      by_cases b7_ : v0 ≠ (0 : Int)
      · have h8_ := (if_pos b7_).symm.trans h6_
        obtain rfl := Option.some.inj h8_
        exact ⟨step_pc 3000 (bT 2 []) [iD v0] [c_d b1_, c_f f3_, c_f f5_, c_b b7_] [] _ rfl (by kernel_rfl) (by kernel_rfl) (by kernel_rfl) (by kernel_rfl) (by kernel_rfl) (by kernel_rfl), by kernel_rfl, by kernel_rfl⟩
      have h8_ := (if_neg b7_).symm.trans h6_
      have b9_ : v0 = (0 : Int) := by first | exact b7_ | simpa using b7_
      obtain rfl := Option.some.inj h8_
      exact ⟨step_pc 3000 (bT 1 (bF 1 [])) [iD v0] [c_d b1_, c_f f3_, c_f f5_, c_bn b9_] [] _ rfl (by kernel_rfl) (by kernel_rfl) (by kernel_rfl) (by kernel_rfl) (by kernel_rfl) (by kernel_rfl), trivial⟩
    have h2_ := (if_neg b1_).symm.trans h0
    obtain rfl := Option.some.inj h2_
    exact ⟨step_pc 3000 (bF 1 []) [] [c_n b1_] [] _ rfl (by kernel_rfl) (by kernel_rfl) (by kernel_rfl) (by kernel_rfl) (by kernel_rfl) (by kernel_rfl), by kernel_rfl, by kernel_rfl⟩
  | .next (_ + 1) _, _, h => by cases h
  | .out _ _, _, h => by cases h
theorem firstOf_L2_go (k : Nat) (c : List D)  {q : Nat} {ds : List D} {j : Nat} {es : List D} (h : runR (firstOf_L2_S k c) (.next q ds) = some (.out j es)) : Runs (ctx [47] firstOf_sp) Tabs firstOf_L2_A (stateOf (firstOf_L2_gs k c (.next q ds))) (stateOf (firstOf_L2_gs k c (.out j es))) (firstOf_L2_ax (.out j es)) ∧ (nxtOf (firstOf_L2_gs k c (.out j es)), lowGS (firstOf_L2_gs k c (.out j es))) = (firstOf_L2_A.nx, firstOf_L2_A.low) :=
  runs_of' (good true _ _) firstOf_L2_ok (ax := firstOf_L2_ax) (fun _ _ => rfl) (fun _ _ => axOf_end _) (firstOf_L2_S_ok k c) h
theorem firstOf_L2_in0 (k : Nat) (c : List D)  {es : List D} (h : runR (firstOf_L2_S k c) (.next 0 [iD ((0 : Int))]) = some (.out 0 es)) : LoopC (loopAt Try.prog 47 0) (firstOf_L2_E k c) 1 noFrame firstOf_x2_0 es :=
  have r := firstOf_L2_go k c h
  loopin_as rfl (loop_in (l := firstOf_L2_A) (E := (firstOf_L2_E k c)) (S := stateOf (firstOf_L2_gs k c (.next 0 [iD ((0 : Int))]))) (ns := nsOf (firstOf_L2_gs k c (.next 0 [iD ((0 : Int))]))) firstOf_L2_ok r.1 r.2 (by kernel_rfl) (by kernel_rfl) (by kernel_rfl) (by kernel_rfl))
theorem firstOf_L2_in1 (k : Nat) (c : List D)  {es : List D} (h : runR (firstOf_L2_S k c) (.next 0 [iD ((0 : Int))]) = some (.out 1 es)) : LoopC (loopAt Try.prog 47 0) (firstOf_L2_E k c) 1 noFrame firstOf_x2_1 es :=
  have r := firstOf_L2_go k c h
  loopin_as rfl (loop_in (l := firstOf_L2_A) (E := (firstOf_L2_E k c)) (S := stateOf (firstOf_L2_gs k c (.next 0 [iD ((0 : Int))]))) (ns := nsOf (firstOf_L2_gs k c (.next 0 [iD ((0 : Int))]))) firstOf_L2_ok r.1 r.2 (by kernel_rfl) (by kernel_rfl) (by kernel_rfl) (by kernel_rfl))
def firstOf_M (k : Nat) (c : List D) : Option D := bindL (runR (firstOf_L2_S k c) (.next 0 [iD ((0 : Int))])) fun j ds => (if j = 0 then pullD (some (.tup ds)) (fun _ => ()) (fun _ => .tup []) fun _ => (some (iD (0 : Int))) else if j = 1 then pullD (α := Int) (some (.tup ds)) (fun d => ((D.vi (D.at d 0)))) (fun l0 => .tup [iD l0]) fun l0 => (some (iD l0)) else none)
theorem firstOf_M_ok (k : Nat) (c : List D) {r : D} (h : firstOf_M k c = some r) : Con 47 [.list k c] r := by
  unfold firstOf_M at h
  obtain ⟨j, ds, e1_, h2_⟩ := bindL_elim h
  by_cases j3_ : j = 0
  · have h6_ := (if_pos j3_).symm.trans h2_
    clear h2_
    subst j3_
    obtain ⟨⟨⟩, e4_, h7_⟩ := pullD_elim h6_
    clear h6_
    obtain rfl := tup_inj e4_
    have k5_ := firstOf_L2_in0 k c e1_
    obtain rfl := Option.some.inj h7_
    exact con_pc (op := true) (I := [47]) (sp := firstOf_sp) 3000 [] [.tup [iD (Int.ofNat 0)]] [] [k_l k5_ [] [.tup [iD (Int.ofNat 0)]] []] (by kernel_rfl)
  have h8_ := (if_neg j3_).symm.trans h2_
  clear h2_
  by_cases j9_ : j = 1
  · have h12_ := (if_pos j9_).symm.trans h8_
    clear h8_
    subst j9_
    obtain ⟨l0, e10_, h13_⟩ := pullD_elim h12_
    clear h12_
    obtain rfl := tup_inj e10_
    have k11_ := firstOf_L2_in1 k c e1_
    obtain rfl := Option.some.inj h13_
    exact con_pc (op := true) (I := [47]) (sp := firstOf_sp) 3000 [] [.tup [iD (Int.ofNat 1), iD l0]] [] [k_l k11_ [] [.tup [iD (Int.ofNat 1), iD l0]] []] (by kernel_rfl)
  have h14_ := (if_neg j9_).symm.trans h8_
  clear h8_
  cases h14_
def m_47 (ds : List D) : Option D := pullD (α := Nat × (List D)) (some (.tup ds)) (fun d => ((D.ln (D.at d 0)), (D.lc (D.at d 0)))) (fun (k, c) => .tup [.list k c]) fun (k, c) => firstOf_M k c
theorem m_47_ok {ds : List D} {r : D} (h : m_47 ds = some r) : Con 47 ds r := by
  unfold m_47 at h
  obtain ⟨⟨k, c⟩, e0, h0⟩ := pullD_elim h
  obtain rfl := tup_inj e0
  exact firstOf_M_ok k c h0
theorem m_47_eq (k : Nat) (c : List D) : m_47 [.list k c] = firstOf_M k c := pullD_some (k, c) rfl rfl
def chkCount_sp : List LSpec := []
def chkCount_M (n m : Int) : Option D := (if n < (1 : Int) then some (iD (10 : Int)) else (if n > m then some (iD (8 : Int)) else some (iD (0 : Int))))
theorem chkCount_M_ok (n m : Int) {r : D} (h : chkCount_M n m = some r) : Con 51 [iD n, iD m] r := by
  unfold chkCount_M at h
  by_cases b1_ : n < (1 : Int)
  · have h2_ := (if_pos b1_).symm.trans h
    obtain rfl := Option.some.inj h2_
    exact con_pc (op := true) (I := [51]) (sp := chkCount_sp) 3000 (bT 1 []) [] [c_d b1_] [] (by kernel_rfl)
  have h2_ := (if_neg b1_).symm.trans h
  by_cases b3_ : n > m
  · have h4_ := (if_pos b3_).symm.trans h2_
    obtain rfl := Option.some.inj h4_
    exact con_pc (op := true) (I := [51]) (sp := chkCount_sp) 3000 (bF 1 (bT 1 [])) [] [c_n b1_, c_d b3_] [] (by kernel_rfl)
  have h4_ := (if_neg b3_).symm.trans h2_
  obtain rfl := Option.some.inj h4_
  exact con_pc (op := true) (I := [51]) (sp := chkCount_sp) 3000 (bF 2 []) [] [c_n b1_, c_n b3_] [] (by kernel_rfl)
def m_51 (ds : List D) : Option D := pullD (α := Int × Int) (some (.tup ds)) (fun d => ((D.vi (D.at d 0)), (D.vi (D.at d 1)))) (fun (n, m) => .tup [iD n, iD m]) fun (n, m) => chkCount_M n m
theorem m_51_ok {ds : List D} {r : D} (h : m_51 ds = some r) : Con 51 ds r := by
  unfold m_51 at h
  obtain ⟨⟨n, m⟩, e0, h0⟩ := pullD_elim h
  obtain rfl := tup_inj e0
  exact chkCount_M_ok n m h0
theorem m_51_eq (n m : Int) : m_51 [iD n, iD m] = chkCount_M n m := pullD_some (n, m) rfl rfl
def chkKind_sp : List LSpec := []
def chkKind_M (n : Int) : Option D := (if n < (0 : Int) then some (iD (15 : Int)) else (if n ≥ (4 : Int) then some (iD (15 : Int)) else some (iD (0 : Int))))
theorem chkKind_M_ok (n : Int) {r : D} (h : chkKind_M n = some r) : Con 48 [iD n] r := by
  unfold chkKind_M at h
  by_cases b1_ : n < (0 : Int)
  · have h2_ := (if_pos b1_).symm.trans h
    obtain rfl := Option.some.inj h2_
    exact con_pc (op := true) (I := [48]) (sp := chkKind_sp) 3000 (bT 4 []) [] [c_d b1_, c_d b1_, c_d b1_, c_T] [] (by kernel_rfl)
  have h2_ := (if_neg b1_).symm.trans h
  by_cases b3_ : n ≥ (4 : Int)
  · have h4_ := (if_pos b3_).symm.trans h2_
    obtain rfl := Option.some.inj h4_
    exact con_pc (op := true) (I := [48]) (sp := chkKind_sp) 3000 (bF 3 (bT 1 [])) [] [c_n b1_, c_n b1_, c_n b1_, c_d b3_] [] (by kernel_rfl)
  have h4_ := (if_neg b3_).symm.trans h2_
  obtain rfl := Option.some.inj h4_
  exact con_pc (op := true) (I := [48]) (sp := chkKind_sp) 3000 (bF 4 []) [] [c_n b1_, c_n b1_, c_n b1_, c_n b3_] [] (by kernel_rfl)
def m_48 (ds : List D) : Option D := pullD (α := Int) (some (.tup ds)) (fun d => ((D.vi (D.at d 0)))) (fun n => .tup [iD n]) fun n => chkKind_M n
theorem m_48_ok {ds : List D} {r : D} (h : m_48 ds = some r) : Con 48 ds r := by
  unfold m_48 at h
  obtain ⟨n, e0, h0⟩ := pullD_elim h
  obtain rfl := tup_inj e0
  exact chkKind_M_ok n h0
theorem m_48_eq (n : Int) : m_48 [iD n] = chkKind_M n := pullD_some n rfl rfl
def sumsOf_x3_0 : LExit := ⟨some 0, [.made 3], (4 :: (5 :: (List.range' 12 16)))⟩
def sumsOf_sp : List LSpec := [⟨66, 3, [sumsOf_x3_0]⟩]
def sumsOf_L3_E (k : Nat) (c : List D)  : List AV × AHeap := ([.dsl 0, .pure (.tuple #[]), .pure (.slice none 0 0), .bsl 1 0 (IntKind.i64.wrap ((k : Int) + (1 : Int))).toNat (IntKind.i64.wrap ((k : Int) + (1 : Int))).toNat, .pure (.tuple #[]), .pure (.tuple #[]), .dsl 0, .pure (.int .i64 (k : Int)), .pure (.int .i64 (IntKind.i64.wrap ((k : Int) + (1 : Int)))), .bsl 1 0 (IntKind.i64.wrap ((k : Int) + (1 : Int))).toNat (IntKind.i64.wrap ((k : Int) + (1 : Int))).toNat, .dsl 0, .pure (.int .i64 (k : Int)), .pure (.int .i64 (0 : Int)), .pure (.tuple #[]), .pure (.tuple #[]), .pure (.tuple #[]), .pure (.tuple #[]), .pure (.tuple #[]), .pure (.tuple #[]), .pure (.tuple #[]), .pure (.tuple #[]), .pure (.tuple #[]), .pure (.tuple #[]), .pure (.tuple #[]), .pure (.tuple #[]), .pure (.tuple #[]), .pure (.tuple #[]), .pure (.tuple #[]), .pure (.tuple #[])], [(1, { cells := [], opn := none, kind := .big (List.map dCell (List.replicate (IntKind.i64.wrap ((k : Int) + (1 : Int))).toNat (Value.int .i64 (0 : Int)).cells.toList).flatten) }), (0, { cells := [], opn := none, kind := .deep k c })])
def sumsOf_L3_A : LoopAt := ⟨66, loopAt Try.prog 66 0, 2, 21, 1, noFrame⟩
theorem sumsOf_L3_ok : (sumsOf_L3_A).OK := ⟨by show 2 ≤ 21; decide, by show 1 ≤ 2; decide, by kernel_rfl, rfl⟩
def sumsOf_L3_gs (k : Nat) (c : List D)  : Go.Ev.Rd → Option GS
  | .next 0 ds => ghost [.val 12, .made 3] (4 :: (5 :: (List.range' 13 15))) (sumsOf_L3_E k c).1 (sumsOf_L3_E k c).2 2 ds
  | .out 0 ds => ghost sumsOf_x3_0.live sumsOf_x3_0.junk (sumsOf_L3_E k c).1 (sumsOf_L3_E k c).2 2 ds
  | _ => none
def sumsOf_L3_ex : Nat → Option Nat
  | 0 => sumsOf_x3_0.ex
  | _ => none
def sumsOf_L3_ax : Go.Ev.Rd → AX
  | .next _ _ => .normal
  | .out j _ => axOf (sumsOf_L3_ex j)
def sumsOf_L3_S0 (k : Nat) (c : List D)  (ds : List D) : Option Go.Ev.Rd := pullD (α := Int × Nat × (List D)) (some (.tup ds)) (fun d => ((D.vi (D.at d 0)), (D.ln (D.at d 1)), (D.lc (D.at d 1)))) (fun (s12, s3n, s3c) => .tup [iD s12, .list s3n s3c]) fun (s12, s3n, s3c) => ((if s12 < (k : Int) then guardP ((0 : Int) ≤ s12 ∧ s12.toNat < k) (pullD (α := Int) (readD c (s12.toNat * 1) 1 false) (fun d => ((D.vi d))) (fun v0 => iD v0) fun v0 => (guardP ((0 : Int) ≤ s12 ∧ s12.toNat < (IntKind.i64.wrap ((k : Int) + (1 : Int))).toNat) (pullD (α := Int) (readD s3c (0 + s12.toNat * 1) 1 false) (fun d => ((D.vi d))) (fun v1 => iD v1) fun v1 => (guardP ((0 : Int) ≤ IntKind.i64.wrap (s12 + (1 : Int)) ∧ (IntKind.i64.wrap (s12 + (1 : Int))).toNat < (IntKind.i64.wrap ((k : Int) + (1 : Int))).toNat) (guardP (0 + (IntKind.i64.wrap (s12 + (1 : Int))).toNat * 1 + 1 ≤ s3c.length ∧ ∀ (u : D), u ∈ [dCell (.int .i64 (IntKind.i64.wrap (v1 + v0)))] → cellD u) (some (.next 0 [iD (IntKind.i64.wrap (s12 + (1 : Int))), .list (IntKind.i64.wrap ((k : Int) + (1 : Int))).toNat (List.append (List.take (0 + (IntKind.i64.wrap (s12 + (1 : Int))).toNat * 1) s3c ++ [dCell (.int .i64 (IntKind.i64.wrap (v1 + v0)))]) (List.drop (0 + (IntKind.i64.wrap (s12 + (1 : Int))).toNat * 1 + [dCell (.int .i64 (IntKind.i64.wrap (v1 + v0)))].length) s3c))]))))))) else some (.out 0 [.list (IntKind.i64.wrap ((k : Int) + (1 : Int))).toNat s3c])))
def sumsOf_L3_S (k : Nat) (c : List D)  : Go.Ev.Rd → Option Go.Ev.Rd
  | .next 0 ds => sumsOf_L3_S0 k c ds
  | _ => none
theorem sumsOf_L3_S_ok (k : Nat) (c : List D)  : ∀ s_ t_, sumsOf_L3_S k c s_ = some t_ → Step (ctx [66] sumsOf_sp) Tabs sumsOf_L3_A (stateOf (sumsOf_L3_gs k c s_)) (stateOf (sumsOf_L3_gs k c t_)) (sumsOf_L3_ax t_) ∧ EndOK sumsOf_L3_A.nx sumsOf_L3_A.low (sumsOf_L3_gs k c) t_
  | .next 0 ds, t_, h => by
    have h_ : sumsOf_L3_S0 k c ds = some t_ := h
    clear h
    unfold sumsOf_L3_S0 at h_
    obtain ⟨⟨s12, s3n, s3c⟩, e0, h0⟩ := pullD_elim h_
    clear h_
    obtain rfl := tup_inj e0
    by_cases b1_ : s12 < (k : Int)
    · have h2_ := (if_pos b1_).symm.trans h0
      obtain ⟨f3_, h4_⟩ := guardP_elim h2_
      obtain ⟨v0, f5_, h6_⟩ := pullD_elim h4_
      replace f5_ := readD_elim f5_
      obtain ⟨f7_, h8_⟩ := guardP_elim h6_
      obtain ⟨v1, f9_, h10_⟩ := pullD_elim h8_
      replace f9_ := readD_elim f9_
      obtain ⟨f11_, h12_⟩ := guardP_elim h10_
      obtain ⟨f13_, h14_⟩ := guardP_elim h12_
      obtain rfl := Option.some.inj h14_
      exact ⟨step_pc 3000 (bT 1 []) [iD v0, iD v1] [c_d b1_, c_f f3_, c_f f5_, c_f f7_, c_f f9_, c_f f11_, c_f f13_] [] _ rfl (by kernel_rfl) (by kernel_rfl) (by kernel_rfl) (by kernel_rfl) (by kernel_rfl) (by kernel_rfl), trivial⟩
    have h2_ := (if_neg b1_).symm.trans h0
    obtain rfl := Option.some.inj h2_
    exact ⟨step_pc 3000 (bF 1 []) [] [c_n b1_] [] _ rfl (by kernel_rfl) (by kernel_rfl) (by kernel_rfl) (by kernel_rfl) (by kernel_rfl) (by kernel_rfl), by kernel_rfl, by kernel_rfl⟩
  | .next (_ + 1) _, _, h => by cases h
  | .out _ _, _, h => by cases h
theorem sumsOf_L3_go (k : Nat) (c : List D)  {q : Nat} {ds : List D} {j : Nat} {es : List D} (h : runR (sumsOf_L3_S k c) (.next q ds) = some (.out j es)) : Runs (ctx [66] sumsOf_sp) Tabs sumsOf_L3_A (stateOf (sumsOf_L3_gs k c (.next q ds))) (stateOf (sumsOf_L3_gs k c (.out j es))) (sumsOf_L3_ax (.out j es)) ∧ (nxtOf (sumsOf_L3_gs k c (.out j es)), lowGS (sumsOf_L3_gs k c (.out j es))) = (sumsOf_L3_A.nx, sumsOf_L3_A.low) :=
  runs_of' (good true _ _) sumsOf_L3_ok (ax := sumsOf_L3_ax) (fun _ _ => rfl) (fun _ _ => axOf_end _) (sumsOf_L3_S_ok k c) h
theorem sumsOf_L3_in0 (k : Nat) (c : List D)  {es : List D} (h : runR (sumsOf_L3_S k c) (.next 0 [iD ((0 : Int)), .list ((IntKind.i64.wrap ((k : Int) + (1 : Int))).toNat) ((List.map dCell (List.replicate (IntKind.i64.wrap ((k : Int) + (1 : Int))).toNat (Value.int .i64 (0 : Int)).cells.toList).flatten))]) = some (.out 0 es)) : LoopC (loopAt Try.prog 66 0) (sumsOf_L3_E k c) 2 noFrame sumsOf_x3_0 es :=
  have r := sumsOf_L3_go k c h
  loopin_as rfl (loop_in (l := sumsOf_L3_A) (E := (sumsOf_L3_E k c)) (S := stateOf (sumsOf_L3_gs k c (.next 0 [iD ((0 : Int)), .list ((IntKind.i64.wrap ((k : Int) + (1 : Int))).toNat) ((List.map dCell (List.replicate (IntKind.i64.wrap ((k : Int) + (1 : Int))).toNat (Value.int .i64 (0 : Int)).cells.toList).flatten))]))) (ns := nsOf (sumsOf_L3_gs k c (.next 0 [iD ((0 : Int)), .list ((IntKind.i64.wrap ((k : Int) + (1 : Int))).toNat) ((List.map dCell (List.replicate (IntKind.i64.wrap ((k : Int) + (1 : Int))).toNat (Value.int .i64 (0 : Int)).cells.toList).flatten))]))) sumsOf_L3_ok r.1 r.2 (by kernel_rfl) (by kernel_rfl) (by kernel_rfl) (by kernel_rfl))
def sumsOf_M (k : Nat) (c : List D) : Option D := guardP ((0 : Int) ≤ IntKind.i64.wrap ((k : Int) + (1 : Int)) ∧ IntKind.i64.wrap ((k : Int) + (1 : Int)) ≤ IntKind.i64.wrap ((k : Int) + (1 : Int)) ∧ 8 * (IntKind.i64.wrap ((k : Int) + (1 : Int))).toNat ≤ 140737488355328 ∧ (IntKind.i64.wrap ((k : Int) + (1 : Int))).toNat ≤ 140737488355328) (guardP ((IntKind.i64.wrap ((k : Int) + (1 : Int))).toNat ≤ (IntKind.i64.wrap ((k : Int) + (1 : Int))).toNat) (bindL (runR (sumsOf_L3_S k c) (.next 0 [iD ((0 : Int)), .list ((IntKind.i64.wrap ((k : Int) + (1 : Int))).toNat) ((List.map dCell (List.replicate (IntKind.i64.wrap ((k : Int) + (1 : Int))).toNat (Value.int .i64 (0 : Int)).cells.toList).flatten))])) fun j ds => (if j = 0 then pullD (α := Nat × (List D)) (some (.tup ds)) (fun d => ((D.ln (D.at d 0)), (D.lc (D.at d 0)))) (fun (k0, c1) => .tup [.list k0 c1]) fun (k0, c1) => (some (.list (IntKind.i64.wrap ((k : Int) + (1 : Int))).toNat c1)) else none)))
theorem sumsOf_M_ok (k : Nat) (c : List D) {r : D} (h : sumsOf_M k c = some r) : Con 66 [.list k c] r := by
  unfold sumsOf_M at h
  obtain ⟨f1_, h2_⟩ := guardP_elim h
  obtain ⟨f3_, h4_⟩ := guardP_elim h2_
  obtain ⟨j, ds, e5_, h6_⟩ := bindL_elim h4_
  by_cases j7_ : j = 0
  · have h10_ := (if_pos j7_).symm.trans h6_
    clear h6_
    subst j7_
    obtain ⟨⟨k0, c1⟩, e8_, h11_⟩ := pullD_elim h10_
    clear h10_
    obtain rfl := tup_inj e8_
    have k9_ := sumsOf_L3_in0 k c e5_
    obtain rfl := Option.some.inj h11_
    exact con_pc (op := true) (I := [66]) (sp := sumsOf_sp) 3000 [] [.tup [iD (Int.ofNat 0), .list k0 c1]] [c_f f1_, c_f f3_] [k_l k9_ [] [.tup [iD (Int.ofNat 0), .list k0 c1]] []] (by kernel_rfl)
  have h12_ := (if_neg j7_).symm.trans h6_
  clear h6_
  cases h12_
def m_66 (ds : List D) : Option D := pullD (α := Nat × (List D)) (some (.tup ds)) (fun d => ((D.ln (D.at d 0)), (D.lc (D.at d 0)))) (fun (k, c) => .tup [.list k c]) fun (k, c) => sumsOf_M k c
theorem m_66_ok {ds : List D} {r : D} (h : m_66 ds = some r) : Con 66 ds r := by
  unfold m_66 at h
  obtain ⟨⟨k, c⟩, e0, h0⟩ := pullD_elim h
  obtain rfl := tup_inj e0
  exact sumsOf_M_ok k c h0
theorem m_66_eq (k : Nat) (c : List D) : m_66 [.list k c] = sumsOf_M k c := pullD_some (k, c) rfl rfl
def sumOf_sp : List LSpec := []
def sumOf_M (k : Nat) (c : List D) : Option D := pullD (α := Nat × (List D)) (m_66 [.list k c]) (fun d => ((D.ln d), (D.lc d))) (fun (k0, c1) => .list k0 c1) fun (k0, c1) => (guardP ((0 : Int) ≤ (k : Int) ∧ ((k : Int)).toNat < k0) (pullD (α := Int) (readD c1 (((k : Int)).toNat * 1) 1 false) (fun d => ((D.vi d))) (fun v2 => iD v2) fun v2 => (some (iD v2))))
theorem sumOf_M_ok (k : Nat) (c : List D) {r : D} (h : sumOf_M k c = some r) : Con 52 [.list k c] r := by
  unfold sumOf_M at h
  obtain ⟨⟨k0, c1⟩, f1_, h2_⟩ := pullD_elim h
  replace f1_ := m_66_ok f1_
  obtain ⟨f3_, h4_⟩ := guardP_elim h2_
  obtain ⟨v2, f5_, h6_⟩ := pullD_elim h4_
  replace f5_ := readD_elim f5_
  obtain rfl := Option.some.inj h6_
  exact con_pc (op := true) (I := [52]) (sp := sumOf_sp) 3000 [] [.list k0 c1, iD v2] [c_f f3_, c_f f5_] [k_c f1_] (by kernel_rfl)
def m_52 (ds : List D) : Option D := pullD (α := Nat × (List D)) (some (.tup ds)) (fun d => ((D.ln (D.at d 0)), (D.lc (D.at d 0)))) (fun (k, c) => .tup [.list k c]) fun (k, c) => sumOf_M k c
theorem m_52_ok {ds : List D} {r : D} (h : m_52 ds = some r) : Con 52 ds r := by
  unfold m_52 at h
  obtain ⟨⟨k, c⟩, e0, h0⟩ := pullD_elim h
  obtain rfl := tup_inj e0
  exact sumOf_M_ok k c h0
theorem m_52_eq (k : Nat) (c : List D) : m_52 [.list k c] = sumOf_M k c := pullD_some (k, c) rfl rfl
def chkWindow_x71_2_0 : LExit := ⟨some 0, [], (4 :: (6 :: (List.range' 9 13)))⟩
def chkWindow_x71_2_1 : LExit := ⟨none, [.val 4], (6 :: (List.range' 9 13))⟩
def chkWindow_sp : List LSpec := [⟨71, 2, [chkWindow_x71_2_0, chkWindow_x71_2_1]⟩]
def chkWindow_L71_2_1_E (ka : Nat) (ca : List D) (kb : Nat) (cb : List D)  : List AV × AHeap := ([.dsl 1, .ptr 3 0, .ptr 4 0, .pure (.tuple #[]), .pure (.int .i64 (0 : Int)), .pure (.tuple #[]), .pure (.tuple #[]), .dsl 1, .pure (.int .i64 (kb : Int)), .pure (.int .i64 (0 : Int)), .pure (.tuple #[]), .pure (.tuple #[]), .pure (.tuple #[]), .pure (.tuple #[]), .pure (.tuple #[]), .pure (.tuple #[]), .pure (.tuple #[]), .pure (.tuple #[]), .pure (.tuple #[]), .pure (.tuple #[]), .pure (.tuple #[]), .pure (.tuple #[])], [(4, { cells := [.pure (.int .i64 (100 : Int))], opn := none, kind := .cells }), (3, { cells := [.pure (.int .i64 (-100 : Int))], opn := none, kind := .cells }), (2, { cells := [.dsl 0, .dsl 1], opn := none, kind := .cells }), (1, { cells := [], opn := none, kind := .deep kb cb }), (0, { cells := [], opn := none, kind := .deep ka ca })])
def chkWindow_L71_2_1_A : LoopAt := ⟨71, loopAt Try.prog 71 0, 20, 35, 20, noFrame⟩
theorem chkWindow_L71_2_1_ok : (chkWindow_L71_2_1_A).OK := ⟨by show 20 ≤ 35; decide, by show 20 ≤ 20; decide, by kernel_rfl, rfl⟩
def chkWindow_L71_2_1_gs (ka : Nat) (ca : List D) (kb : Nat) (cb : List D)  : Go.Ev.Rd → Option GS
  | .next 0 ds => ghost [.val 9] (4 :: (6 :: (List.range' 10 12))) (chkWindow_L71_2_1_E ka ca kb cb).1 (chkWindow_L71_2_1_E ka ca kb cb).2 20 ds
  | .out 0 ds => ghost chkWindow_x71_2_0.live chkWindow_x71_2_0.junk (chkWindow_L71_2_1_E ka ca kb cb).1 (chkWindow_L71_2_1_E ka ca kb cb).2 20 ds
  | .out 1 ds => ghost chkWindow_x71_2_1.live chkWindow_x71_2_1.junk (chkWindow_L71_2_1_E ka ca kb cb).1 (chkWindow_L71_2_1_E ka ca kb cb).2 20 ds
  | _ => none
def chkWindow_L71_2_1_ex : Nat → Option Nat
  | 0 => chkWindow_x71_2_0.ex
  | 1 => chkWindow_x71_2_1.ex
  | _ => none
def chkWindow_L71_2_1_ax : Go.Ev.Rd → AX
  | .next _ _ => .normal
  | .out j _ => axOf (chkWindow_L71_2_1_ex j)
def chkWindow_L71_2_1_S0 (ka : Nat) (ca : List D) (kb : Nat) (cb : List D)  (ds : List D) : Option Go.Ev.Rd := pullD (α := Int) (some (.tup ds)) (fun d => ((D.vi (D.at d 0)))) (fun s9 => .tup [iD s9]) fun s9 => ((if s9 < (kb : Int) then guardP ((0 : Int) ≤ s9 ∧ s9.toNat < kb) (pullD (α := Int) (readD cb (s9.toNat * 1) 1 false) (fun d => ((D.vi d))) (fun v0 => iD v0) fun v0 => ((if v0 < (-100 : Int) then some (.out 1 [iD (2 : Int)]) else (if v0 > (100 : Int) then some (.out 1 [iD (2 : Int)]) else some (.next 0 [iD (IntKind.i64.wrap (s9 + (1 : Int)))]))))) else some (.out 0 [])))
def chkWindow_L71_2_1_S (ka : Nat) (ca : List D) (kb : Nat) (cb : List D)  : Go.Ev.Rd → Option Go.Ev.Rd
  | .next 0 ds => chkWindow_L71_2_1_S0 ka ca kb cb ds
  | _ => none
theorem chkWindow_L71_2_1_S_ok (ka : Nat) (ca : List D) (kb : Nat) (cb : List D)  : ∀ s_ t_, chkWindow_L71_2_1_S ka ca kb cb s_ = some t_ → Step (ctx [17, 50, 59, 71] chkWindow_sp) Tabs chkWindow_L71_2_1_A (stateOf (chkWindow_L71_2_1_gs ka ca kb cb s_)) (stateOf (chkWindow_L71_2_1_gs ka ca kb cb t_)) (chkWindow_L71_2_1_ax t_) ∧ EndOK chkWindow_L71_2_1_A.nx chkWindow_L71_2_1_A.low (chkWindow_L71_2_1_gs ka ca kb cb) t_
  | .next 0 ds, t_, h => by
    have h_ : chkWindow_L71_2_1_S0 ka ca kb cb ds = some t_ := h
    clear h
    unfold chkWindow_L71_2_1_S0 at h_
    obtain ⟨s9, e0, h0⟩ := pullD_elim h_
    clear h_
    obtain rfl := tup_inj e0
    by_cases b1_ : s9 < (kb : Int)
    · have h2_ := (if_pos b1_).symm.trans h0
      obtain ⟨f3_, h4_⟩ := guardP_elim h2_
      obtain ⟨v0, f5_, h6_⟩ := pullD_elim h4_
      replace f5_ := readD_elim f5_
      by_cases b7_ : v0 < (-100 : Int)
      · have h8_ := (if_pos b7_).symm.trans h6_
        obtain rfl := Option.some.inj h8_
        exact ⟨step_pc 3000 (bT 6 []) [iD v0] [c_d b1_, c_f f3_, c_f f5_, c_d b7_, c_d b7_, c_d b7_, c_d b7_, c_T] [] _ rfl (by kernel_rfl) (by kernel_rfl) (by kernel_rfl) (by kernel_rfl) (by kernel_rfl) (by kernel_rfl), by kernel_rfl, by kernel_rfl⟩
      have h8_ := (if_neg b7_).symm.trans h6_
      by_cases b9_ : v0 > (100 : Int)
      · have h10_ := (if_pos b9_).symm.trans h8_
        obtain rfl := Option.some.inj h10_
        exact ⟨step_pc 3000 (bT 1 (bF 4 (bT 1 []))) [iD v0] [c_d b1_, c_f f3_, c_f f5_, c_n b7_, c_n b7_, c_n b7_, c_n b7_, c_d b9_] [] _ rfl (by kernel_rfl) (by kernel_rfl) (by kernel_rfl) (by kernel_rfl) (by kernel_rfl) (by kernel_rfl), by kernel_rfl, by kernel_rfl⟩
      have h10_ := (if_neg b9_).symm.trans h8_
      obtain rfl := Option.some.inj h10_
      exact ⟨step_pc 3000 (bT 1 (bF 5 [])) [iD v0] [c_d b1_, c_f f3_, c_f f5_, c_n b7_, c_n b7_, c_n b7_, c_n b7_, c_n b9_] [] _ rfl (by kernel_rfl) (by kernel_rfl) (by kernel_rfl) (by kernel_rfl) (by kernel_rfl) (by kernel_rfl), trivial⟩
    have h2_ := (if_neg b1_).symm.trans h0
    obtain rfl := Option.some.inj h2_
    exact ⟨step_pc 3000 (bF 1 []) [] [c_n b1_] [] _ rfl (by kernel_rfl) (by kernel_rfl) (by kernel_rfl) (by kernel_rfl) (by kernel_rfl) (by kernel_rfl), by kernel_rfl, by kernel_rfl⟩
  | .next (_ + 1) _, _, h => by cases h
  | .out _ _, _, h => by cases h
theorem chkWindow_L71_2_1_go (ka : Nat) (ca : List D) (kb : Nat) (cb : List D)  {q : Nat} {ds : List D} {j : Nat} {es : List D} (h : runR (chkWindow_L71_2_1_S ka ca kb cb) (.next q ds) = some (.out j es)) : Runs (ctx [17, 50, 59, 71] chkWindow_sp) Tabs chkWindow_L71_2_1_A (stateOf (chkWindow_L71_2_1_gs ka ca kb cb (.next q ds))) (stateOf (chkWindow_L71_2_1_gs ka ca kb cb (.out j es))) (chkWindow_L71_2_1_ax (.out j es)) ∧ (nxtOf (chkWindow_L71_2_1_gs ka ca kb cb (.out j es)), lowGS (chkWindow_L71_2_1_gs ka ca kb cb (.out j es))) = (chkWindow_L71_2_1_A.nx, chkWindow_L71_2_1_A.low) :=
  runs_of' (good true _ _) chkWindow_L71_2_1_ok (ax := chkWindow_L71_2_1_ax) (fun _ _ => rfl) (fun _ _ => axOf_end _) (chkWindow_L71_2_1_S_ok ka ca kb cb) h
theorem chkWindow_L71_2_1_in0 (ka : Nat) (ca : List D) (kb : Nat) (cb : List D)  {es : List D} (h : runR (chkWindow_L71_2_1_S ka ca kb cb) (.next 0 [iD ((0 : Int))]) = some (.out 0 es)) : LoopC (loopAt Try.prog 71 0) (chkWindow_L71_2_1_E ka ca kb cb) 20 noFrame chkWindow_x71_2_0 es :=
  have r := chkWindow_L71_2_1_go ka ca kb cb h
  loopin_as rfl (loop_in (l := chkWindow_L71_2_1_A) (E := (chkWindow_L71_2_1_E ka ca kb cb)) (S := stateOf (chkWindow_L71_2_1_gs ka ca kb cb (.next 0 [iD ((0 : Int))]))) (ns := nsOf (chkWindow_L71_2_1_gs ka ca kb cb (.next 0 [iD ((0 : Int))]))) chkWindow_L71_2_1_ok r.1 r.2 (by kernel_rfl) (by kernel_rfl) (by kernel_rfl) (by kernel_rfl))
theorem chkWindow_L71_2_1_in1 (ka : Nat) (ca : List D) (kb : Nat) (cb : List D)  {es : List D} (h : runR (chkWindow_L71_2_1_S ka ca kb cb) (.next 0 [iD ((0 : Int))]) = some (.out 1 es)) : LoopC (loopAt Try.prog 71 0) (chkWindow_L71_2_1_E ka ca kb cb) 20 noFrame chkWindow_x71_2_1 es :=
  have r := chkWindow_L71_2_1_go ka ca kb cb h
  loopin_as rfl (loop_in (l := chkWindow_L71_2_1_A) (E := (chkWindow_L71_2_1_E ka ca kb cb)) (S := stateOf (chkWindow_L71_2_1_gs ka ca kb cb (.next 0 [iD ((0 : Int))]))) (ns := nsOf (chkWindow_L71_2_1_gs ka ca kb cb (.next 0 [iD ((0 : Int))]))) chkWindow_L71_2_1_ok r.1 r.2 (by kernel_rfl) (by kernel_rfl) (by kernel_rfl) (by kernel_rfl))
def chkWindow_L71_2_E (ka : Nat) (ca : List D) (kb : Nat) (cb : List D)  : List AV × AHeap := ([.dsl 0, .ptr 3 0, .ptr 4 0, .pure (.tuple #[]), .pure (.int .i64 (0 : Int)), .pure (.tuple #[]), .pure (.tuple #[]), .dsl 0, .pure (.int .i64 (ka : Int)), .pure (.int .i64 (0 : Int)), .pure (.tuple #[]), .pure (.tuple #[]), .pure (.tuple #[]), .pure (.tuple #[]), .pure (.tuple #[]), .pure (.tuple #[]), .pure (.tuple #[]), .pure (.tuple #[]), .pure (.tuple #[]), .pure (.tuple #[]), .pure (.tuple #[]), .pure (.tuple #[])], [(4, { cells := [.pure (.int .i64 (100 : Int))], opn := none, kind := .cells }), (3, { cells := [.pure (.int .i64 (-100 : Int))], opn := none, kind := .cells }), (2, { cells := [.dsl 0, .dsl 1], opn := none, kind := .cells }), (1, { cells := [], opn := none, kind := .deep kb cb }), (0, { cells := [], opn := none, kind := .deep ka ca })])
def chkWindow_L71_2_A : LoopAt := ⟨71, loopAt Try.prog 71 0, 5, 20, 5, noFrame⟩
theorem chkWindow_L71_2_ok : (chkWindow_L71_2_A).OK := ⟨by show 5 ≤ 20; decide, by show 5 ≤ 5; decide, by kernel_rfl, rfl⟩
def chkWindow_L71_2_gs (ka : Nat) (ca : List D) (kb : Nat) (cb : List D)  : Go.Ev.Rd → Option GS
  | .next 0 ds => ghost [.val 9] (4 :: (6 :: (List.range' 10 12))) (chkWindow_L71_2_E ka ca kb cb).1 (chkWindow_L71_2_E ka ca kb cb).2 5 ds
  | .out 0 ds => ghost chkWindow_x71_2_0.live chkWindow_x71_2_0.junk (chkWindow_L71_2_E ka ca kb cb).1 (chkWindow_L71_2_E ka ca kb cb).2 5 ds
  | .out 1 ds => ghost chkWindow_x71_2_1.live chkWindow_x71_2_1.junk (chkWindow_L71_2_E ka ca kb cb).1 (chkWindow_L71_2_E ka ca kb cb).2 5 ds
  | _ => none
def chkWindow_L71_2_ex : Nat → Option Nat
  | 0 => chkWindow_x71_2_0.ex
  | 1 => chkWindow_x71_2_1.ex
  | _ => none
def chkWindow_L71_2_ax : Go.Ev.Rd → AX
  | .next _ _ => .normal
  | .out j _ => axOf (chkWindow_L71_2_ex j)
def chkWindow_L71_2_S0 (ka : Nat) (ca : List D) (kb : Nat) (cb : List D)  (ds : List D) : Option Go.Ev.Rd := pullD (α := Int) (some (.tup ds)) (fun d => ((D.vi (D.at d 0)))) (fun s9 => .tup [iD s9]) fun s9 => ((if s9 < (ka : Int) then guardP ((0 : Int) ≤ s9 ∧ s9.toNat < ka) (pullD (α := Int) (readD ca (s9.toNat * 1) 1 false) (fun d => ((D.vi d))) (fun v0 => iD v0) fun v0 => ((if v0 < (-100 : Int) then some (.out 1 [iD (2 : Int)]) else (if v0 > (100 : Int) then some (.out 1 [iD (2 : Int)]) else some (.next 0 [iD (IntKind.i64.wrap (s9 + (1 : Int)))]))))) else some (.out 0 [])))
def chkWindow_L71_2_S (ka : Nat) (ca : List D) (kb : Nat) (cb : List D)  : Go.Ev.Rd → Option Go.Ev.Rd
  | .next 0 ds => chkWindow_L71_2_S0 ka ca kb cb ds
  | _ => none
theorem chkWindow_L71_2_S_ok (ka : Nat) (ca : List D) (kb : Nat) (cb : List D)  : ∀ s_ t_, chkWindow_L71_2_S ka ca kb cb s_ = some t_ → Step (ctx [17, 50, 59, 71] chkWindow_sp) Tabs chkWindow_L71_2_A (stateOf (chkWindow_L71_2_gs ka ca kb cb s_)) (stateOf (chkWindow_L71_2_gs ka ca kb cb t_)) (chkWindow_L71_2_ax t_) ∧ EndOK chkWindow_L71_2_A.nx chkWindow_L71_2_A.low (chkWindow_L71_2_gs ka ca kb cb) t_
  | .next 0 ds, t_, h => by
    have h_ : chkWindow_L71_2_S0 ka ca kb cb ds = some t_ := h
    clear h
    unfold chkWindow_L71_2_S0 at h_
    obtain ⟨s9, e0, h0⟩ := pullD_elim h_
    clear h_
    obtain rfl := tup_inj e0
    by_cases b1_ : s9 < (ka : Int)
    · have h2_ := (if_pos b1_).symm.trans h0
      obtain ⟨f3_, h4_⟩ := guardP_elim h2_
      obtain ⟨v0, f5_, h6_⟩ := pullD_elim h4_
      replace f5_ := readD_elim f5_
      by_cases b7_ : v0 < (-100 : Int)
      · have h8_ := (if_pos b7_).symm.trans h6_
        obtain rfl := Option.some.inj h8_
        exact ⟨step_pc 3000 (bT 6 []) [iD v0] [c_d b1_, c_f f3_, c_f f5_, c_d b7_, c_d b7_, c_d b7_, c_d b7_, c_T] [] _ rfl (by kernel_rfl) (by kernel_rfl) (by kernel_rfl) (by kernel_rfl) (by kernel_rfl) (by kernel_rfl), by kernel_rfl, by kernel_rfl⟩
      have h8_ := (if_neg b7_).symm.trans h6_
      by_cases b9_ : v0 > (100 : Int)
      · have h10_ := (if_pos b9_).symm.trans h8_
        obtain rfl := Option.some.inj h10_
        exact ⟨step_pc 3000 (bT 1 (bF 4 (bT 1 []))) [iD v0] [c_d b1_, c_f f3_, c_f f5_, c_n b7_, c_n b7_, c_n b7_, c_n b7_, c_d b9_] [] _ rfl (by kernel_rfl) (by kernel_rfl) (by kernel_rfl) (by kernel_rfl) (by kernel_rfl) (by kernel_rfl), by kernel_rfl, by kernel_rfl⟩
      have h10_ := (if_neg b9_).symm.trans h8_
      obtain rfl := Option.some.inj h10_
      exact ⟨step_pc 3000 (bT 1 (bF 5 [])) [iD v0] [c_d b1_, c_f f3_, c_f f5_, c_n b7_, c_n b7_, c_n b7_, c_n b7_, c_n b9_] [] _ rfl (by kernel_rfl) (by kernel_rfl) (by kernel_rfl) (by kernel_rfl) (by kernel_rfl) (by kernel_rfl), trivial⟩
    have h2_ := (if_neg b1_).symm.trans h0
    obtain rfl := Option.some.inj h2_
    exact ⟨step_pc 3000 (bF 1 []) [] [c_n b1_] [] _ rfl (by kernel_rfl) (by kernel_rfl) (by kernel_rfl) (by kernel_rfl) (by kernel_rfl) (by kernel_rfl), by kernel_rfl, by kernel_rfl⟩
  | .next (_ + 1) _, _, h => by cases h
  | .out _ _, _, h => by cases h
theorem chkWindow_L71_2_go (ka : Nat) (ca : List D) (kb : Nat) (cb : List D)  {q : Nat} {ds : List D} {j : Nat} {es : List D} (h : runR (chkWindow_L71_2_S ka ca kb cb) (.next q ds) = some (.out j es)) : Runs (ctx [17, 50, 59, 71] chkWindow_sp) Tabs chkWindow_L71_2_A (stateOf (chkWindow_L71_2_gs ka ca kb cb (.next q ds))) (stateOf (chkWindow_L71_2_gs ka ca kb cb (.out j es))) (chkWindow_L71_2_ax (.out j es)) ∧ (nxtOf (chkWindow_L71_2_gs ka ca kb cb (.out j es)), lowGS (chkWindow_L71_2_gs ka ca kb cb (.out j es))) = (chkWindow_L71_2_A.nx, chkWindow_L71_2_A.low) :=
  runs_of' (good true _ _) chkWindow_L71_2_ok (ax := chkWindow_L71_2_ax) (fun _ _ => rfl) (fun _ _ => axOf_end _) (chkWindow_L71_2_S_ok ka ca kb cb) h
theorem chkWindow_L71_2_in0 (ka : Nat) (ca : List D) (kb : Nat) (cb : List D)  {es : List D} (h : runR (chkWindow_L71_2_S ka ca kb cb) (.next 0 [iD ((0 : Int))]) = some (.out 0 es)) : LoopC (loopAt Try.prog 71 0) (chkWindow_L71_2_E ka ca kb cb) 5 noFrame chkWindow_x71_2_0 es :=
  have r := chkWindow_L71_2_go ka ca kb cb h
  loopin_as rfl (loop_in (l := chkWindow_L71_2_A) (E := (chkWindow_L71_2_E ka ca kb cb)) (S := stateOf (chkWindow_L71_2_gs ka ca kb cb (.next 0 [iD ((0 : Int))]))) (ns := nsOf (chkWindow_L71_2_gs ka ca kb cb (.next 0 [iD ((0 : Int))]))) chkWindow_L71_2_ok r.1 r.2 (by kernel_rfl) (by kernel_rfl) (by kernel_rfl) (by kernel_rfl))
theorem chkWindow_L71_2_in1 (ka : Nat) (ca : List D) (kb : Nat) (cb : List D)  {es : List D} (h : runR (chkWindow_L71_2_S ka ca kb cb) (.next 0 [iD ((0 : Int))]) = some (.out 1 es)) : LoopC (loopAt Try.prog 71 0) (chkWindow_L71_2_E ka ca kb cb) 5 noFrame chkWindow_x71_2_1 es :=
  have r := chkWindow_L71_2_go ka ca kb cb h
  loopin_as rfl (loop_in (l := chkWindow_L71_2_A) (E := (chkWindow_L71_2_E ka ca kb cb)) (S := stateOf (chkWindow_L71_2_gs ka ca kb cb (.next 0 [iD ((0 : Int))]))) (ns := nsOf (chkWindow_L71_2_gs ka ca kb cb (.next 0 [iD ((0 : Int))]))) chkWindow_L71_2_ok r.1 r.2 (by kernel_rfl) (by kernel_rfl) (by kernel_rfl) (by kernel_rfl))
def chkWindow_M (ka : Nat) (ca : List D) (kb : Nat) (cb : List D) : Option D := (if (ka : Int) ≠ (kb : Int) then some (iD (10 : Int)) else pullD (α := Int) (m_51 [iD (ka : Int), iD (15 : Int)]) (fun d => ((D.vi d))) (fun r0 => iD r0) fun r0 => (bindL (runR (chkWindow_L71_2_S ka ca kb cb) (.next 0 [iD ((0 : Int))])) fun j ds => (if j = 0 then pullD (some (.tup ds)) (fun _ => ()) (fun _ => .tup []) fun _ => (bindL (runR (chkWindow_L71_2_1_S ka ca kb cb) (.next 0 [iD ((0 : Int))])) fun j ds => (if j = 0 then pullD (some (.tup ds)) (fun _ => ()) (fun _ => .tup []) fun _ => (pullD (α := Int) (m_47 [.list 3 [iD r0, iD (0 : Int), iD (0 : Int)]]) (fun d => ((D.vi d))) (fun r1 => iD r1) fun r1 => ((if r1 ≠ (0 : Int) then some (iD r1) else pullD (α := Int) (m_52 [.list ka ca]) (fun d => ((D.vi d))) (fun r2 => iD r2) fun r2 => (pullD (α := Int) (m_52 [.list kb cb]) (fun d => ((D.vi d))) (fun r3 => iD r3) fun r3 => ((if IntKind.i64.wrap (r2 + r3) ≠ (0 : Int) then some (iD (13 : Int)) else some (iD (0 : Int)))))))) else if j = 1 then pullD (α := Int) (some (.tup ds)) (fun d => ((D.vi (D.at d 0)))) (fun l4 => .tup [iD l4]) fun l4 => (pullD (α := Int) (m_47 [.list 3 [iD r0, iD (0 : Int), iD l4]]) (fun d => ((D.vi d))) (fun r5 => iD r5) fun r5 => ((if r5 ≠ (0 : Int) then some (iD r5) else pullD (α := Int) (m_52 [.list ka ca]) (fun d => ((D.vi d))) (fun r6 => iD r6) fun r6 => (pullD (α := Int) (m_52 [.list kb cb]) (fun d => ((D.vi d))) (fun r7 => iD r7) fun r7 => ((if IntKind.i64.wrap (r6 + r7) ≠ (0 : Int) then some (iD (13 : Int)) else some (iD (0 : Int)))))))) else none)) else if j = 1 then pullD (α := Int) (some (.tup ds)) (fun d => ((D.vi (D.at d 0)))) (fun l8 => .tup [iD l8]) fun l8 => (bindL (runR (chkWindow_L71_2_1_S ka ca kb cb) (.next 0 [iD ((0 : Int))])) fun j ds => (if j = 0 then pullD (some (.tup ds)) (fun _ => ()) (fun _ => .tup []) fun _ => (pullD (α := Int) (m_47 [.list 3 [iD r0, iD l8, iD (0 : Int)]]) (fun d => ((D.vi d))) (fun r9 => iD r9) fun r9 => ((if r9 ≠ (0 : Int) then some (iD r9) else pullD (α := Int) (m_52 [.list ka ca]) (fun d => ((D.vi d))) (fun r10 => iD r10) fun r10 => (pullD (α := Int) (m_52 [.list kb cb]) (fun d => ((D.vi d))) (fun r11 => iD r11) fun r11 => ((if IntKind.i64.wrap (r10 + r11) ≠ (0 : Int) then some (iD (13 : Int)) else some (iD (0 : Int)))))))) else if j = 1 then pullD (α := Int) (some (.tup ds)) (fun d => ((D.vi (D.at d 0)))) (fun l12 => .tup [iD l12]) fun l12 => (pullD (α := Int) (m_47 [.list 3 [iD r0, iD l8, iD l12]]) (fun d => ((D.vi d))) (fun r13 => iD r13) fun r13 => ((if r13 ≠ (0 : Int) then some (iD r13) else pullD (α := Int) (m_52 [.list ka ca]) (fun d => ((D.vi d))) (fun r14 => iD r14) fun r14 => (pullD (α := Int) (m_52 [.list kb cb]) (fun d => ((D.vi d))) (fun r15 => iD r15) fun r15 => ((if IntKind.i64.wrap (r14 + r15) ≠ (0 : Int) then some (iD (13 : Int)) else some (iD (0 : Int)))))))) else none)) else none)))
theorem chkWindow_M_ok (ka : Nat) (ca : List D) (kb : Nat) (cb : List D) {r : D} (h : chkWindow_M ka ca kb cb = some r) : Con 17 [.agg [.list ka ca, .list kb cb]] r := by
  unfold chkWindow_M at h
  by_cases b1_ : (ka : Int) ≠ (kb : Int)
  · have h2_ := (if_pos b1_).symm.trans h
    obtain rfl := Option.some.inj h2_
    exact con_pc (op := true) (I := [17, 50, 59, 71]) (sp := chkWindow_sp) 3000 (bT 1 []) [] [c_b b1_] [] (by kernel_rfl)
  have h2_ := (if_neg b1_).symm.trans h
  have b3_ : (ka : Int) = (kb : Int) := by first | exact b1_ | simpa using b1_
  obtain ⟨r0, f4_, h5_⟩ := pullD_elim h2_
  replace f4_ := m_51_ok f4_
  obtain ⟨j, ds, e6_, h7_⟩ := bindL_elim h5_
  by_cases j8_ : j = 0
  · have h11_ := (if_pos j8_).symm.trans h7_
    clear h7_
    subst j8_
    obtain ⟨⟨⟩, e9_, h12_⟩ := pullD_elim h11_
    clear h11_
    obtain rfl := tup_inj e9_
    have k10_ := chkWindow_L71_2_in0 ka ca kb cb e6_
    obtain ⟨j, ds, e13_, h14_⟩ := bindL_elim h12_
    by_cases j15_ : j = 0
    · have h18_ := (if_pos j15_).symm.trans h14_
      clear h14_
      subst j15_
      obtain ⟨⟨⟩, e16_, h19_⟩ := pullD_elim h18_
      clear h18_
      obtain rfl := tup_inj e16_
      have k17_ := chkWindow_L71_2_1_in0 ka ca kb cb e13_
      obtain ⟨r1, f20_, h21_⟩ := pullD_elim h19_
      replace f20_ := m_47_ok f20_
      by_cases b22_ : r1 ≠ (0 : Int)
      · have h23_ := (if_pos b22_).symm.trans h21_
        obtain rfl := Option.some.inj h23_
        exact con_pc (op := true) (I := [17, 50, 59, 71]) (sp := chkWindow_sp) 3000 (bF 1 (bT 1 [])) [iD r0, .tup [iD (Int.ofNat 0)], .tup [iD (Int.ofNat 0)], iD r1] [c_bn b3_, c_le 2, c_b b22_] [k_c f4_, k_l k10_ (bT 1 []) [.tup [iD (Int.ofNat 0)], .tup [iD (Int.ofNat 0)], iD r1] [.tup [iD (Int.ofNat 0)], iD r1], k_l k17_ (bT 1 []) [.tup [iD (Int.ofNat 0)], iD r1] [iD r1], k_c f20_] (by kernel_rfl)
      have h23_ := (if_neg b22_).symm.trans h21_
      have b24_ : r1 = (0 : Int) := by first | exact b22_ | simpa using b22_
      obtain ⟨r2, f25_, h26_⟩ := pullD_elim h23_
      replace f25_ := m_52_ok f25_
      obtain ⟨r3, f27_, h28_⟩ := pullD_elim h26_
      replace f27_ := m_52_ok f27_
      by_cases b29_ : IntKind.i64.wrap (r2 + r3) ≠ (0 : Int)
      · have h30_ := (if_pos b29_).symm.trans h28_
        obtain rfl := Option.some.inj h30_
        exact con_pc (op := true) (I := [17, 50, 59, 71]) (sp := chkWindow_sp) 3000 (bF 2 (bT 1 [])) [iD r0, .tup [iD (Int.ofNat 0)], .tup [iD (Int.ofNat 0)], iD r1, iD r2, iD r3] [c_bn b3_, c_le 2, c_bn b24_, c_b b29_] [k_c f4_, k_l k10_ (bF 1 (bT 1 [])) [.tup [iD (Int.ofNat 0)], .tup [iD (Int.ofNat 0)], iD r1, iD r2, iD r3] [.tup [iD (Int.ofNat 0)], iD r1, iD r2, iD r3], k_l k17_ (bF 1 (bT 1 [])) [.tup [iD (Int.ofNat 0)], iD r1, iD r2, iD r3] [iD r1, iD r2, iD r3], k_c f20_, k_c f25_, k_c f27_] (by kernel_rfl)
      have h30_ := (if_neg b29_).symm.trans h28_
      have b31_ : IntKind.i64.wrap (r2 + r3) = (0 : Int) := by first | exact b29_ | simpa using b29_
      obtain rfl := Option.some.inj h30_
      exact con_pc (op := true) (I := [17, 50, 59, 71]) (sp := chkWindow_sp) 3000 (bF 3 []) [iD r0, .tup [iD (Int.ofNat 0)], .tup [iD (Int.ofNat 0)], iD r1, iD r2, iD r3] [c_bn b3_, c_le 2, c_bn b24_, c_bn b31_] [k_c f4_, k_l k10_ (bF 2 []) [.tup [iD (Int.ofNat 0)], .tup [iD (Int.ofNat 0)], iD r1, iD r2, iD r3] [.tup [iD (Int.ofNat 0)], iD r1, iD r2, iD r3], k_l k17_ (bF 2 []) [.tup [iD (Int.ofNat 0)], iD r1, iD r2, iD r3] [iD r1, iD r2, iD r3], k_c f20_, k_c f25_, k_c f27_] (by kernel_rfl)
    have h32_ := (if_neg j15_).symm.trans h14_
    clear h14_
    by_cases j33_ : j = 1
    · have h36_ := (if_pos j33_).symm.trans h32_
      clear h32_
      subst j33_
      obtain ⟨l4, e34_, h37_⟩ := pullD_elim h36_
      clear h36_
      obtain rfl := tup_inj e34_
      have k35_ := chkWindow_L71_2_1_in1 ka ca kb cb e13_
      obtain ⟨r5, f38_, h39_⟩ := pullD_elim h37_
      replace f38_ := m_47_ok f38_
      by_cases b40_ : r5 ≠ (0 : Int)
      · have h41_ := (if_pos b40_).symm.trans h39_
        obtain rfl := Option.some.inj h41_
        exact con_pc (op := true) (I := [17, 50, 59, 71]) (sp := chkWindow_sp) 3000 (bF 1 (bT 1 [])) [iD r0, .tup [iD (Int.ofNat 0)], .tup [iD (Int.ofNat 1), iD l4], iD r5] [c_bn b3_, c_le 2, c_b b40_] [k_c f4_, k_l k10_ (bT 1 []) [.tup [iD (Int.ofNat 0)], .tup [iD (Int.ofNat 1), iD l4], iD r5] [.tup [iD (Int.ofNat 1), iD l4], iD r5], k_l k35_ (bT 1 []) [.tup [iD (Int.ofNat 1), iD l4], iD r5] [iD r5], k_c f38_] (by kernel_rfl)
      have h41_ := (if_neg b40_).symm.trans h39_
      have b42_ : r5 = (0 : Int) := by first | exact b40_ | simpa using b40_
      obtain ⟨r6, f43_, h44_⟩ := pullD_elim h41_
      replace f43_ := m_52_ok f43_
      obtain ⟨r7, f45_, h46_⟩ := pullD_elim h44_
      replace f45_ := m_52_ok f45_
      by_cases b47_ : IntKind.i64.wrap (r6 + r7) ≠ (0 : Int)
      · have h48_ := (if_pos b47_).symm.trans h46_
        obtain rfl := Option.some.inj h48_
        exact con_pc (op := true) (I := [17, 50, 59, 71]) (sp := chkWindow_sp) 3000 (bF 2 (bT 1 [])) [iD r0, .tup [iD (Int.ofNat 0)], .tup [iD (Int.ofNat 1), iD l4], iD r5, iD r6, iD r7] [c_bn b3_, c_le 2, c_bn b42_, c_b b47_] [k_c f4_, k_l k10_ (bF 1 (bT 1 [])) [.tup [iD (Int.ofNat 0)], .tup [iD (Int.ofNat 1), iD l4], iD r5, iD r6, iD r7] [.tup [iD (Int.ofNat 1), iD l4], iD r5, iD r6, iD r7], k_l k35_ (bF 1 (bT 1 [])) [.tup [iD (Int.ofNat 1), iD l4], iD r5, iD r6, iD r7] [iD r5, iD r6, iD r7], k_c f38_, k_c f43_, k_c f45_] (by kernel_rfl)
      have h48_ := (if_neg b47_).symm.trans h46_
      have b49_ : IntKind.i64.wrap (r6 + r7) = (0 : Int) := by first | exact b47_ | simpa using b47_
      obtain rfl := Option.some.inj h48_
      exact con_pc (op := true) (I := [17, 50, 59, 71]) (sp := chkWindow_sp) 3000 (bF 3 []) [iD r0, .tup [iD (Int.ofNat 0)], .tup [iD (Int.ofNat 1), iD l4], iD r5, iD r6, iD r7] [c_bn b3_, c_le 2, c_bn b42_, c_bn b49_] [k_c f4_, k_l k10_ (bF 2 []) [.tup [iD (Int.ofNat 0)], .tup [iD (Int.ofNat 1), iD l4], iD r5, iD r6, iD r7] [.tup [iD (Int.ofNat 1), iD l4], iD r5, iD r6, iD r7], k_l k35_ (bF 2 []) [.tup [iD (Int.ofNat 1), iD l4], iD r5, iD r6, iD r7] [iD r5, iD r6, iD r7], k_c f38_, k_c f43_, k_c f45_] (by kernel_rfl)
    have h50_ := (if_neg j33_).symm.trans h32_
    clear h32_
    cases h50_
  have h51_ := (if_neg j8_).symm.trans h7_
  clear h7_
  by_cases j52_ : j = 1
  · have h55_ := (if_pos j52_).symm.trans h51_
    clear h51_
    subst j52_
    obtain ⟨l8, e53_, h56_⟩ := pullD_elim h55_
    clear h55_
    obtain rfl := tup_inj e53_
    have k54_ := chkWindow_L71_2_in1 ka ca kb cb e6_
    obtain ⟨j, ds, e57_, h58_⟩ := bindL_elim h56_
    by_cases j59_ : j = 0
    · have h62_ := (if_pos j59_).symm.trans h58_
      clear h58_
      subst j59_
      obtain ⟨⟨⟩, e60_, h63_⟩ := pullD_elim h62_
      clear h62_
      obtain rfl := tup_inj e60_
      have k61_ := chkWindow_L71_2_1_in0 ka ca kb cb e57_
      obtain ⟨r9, f64_, h65_⟩ := pullD_elim h63_
      replace f64_ := m_47_ok f64_
      by_cases b66_ : r9 ≠ (0 : Int)
      · have h67_ := (if_pos b66_).symm.trans h65_
        obtain rfl := Option.some.inj h67_
        exact con_pc (op := true) (I := [17, 50, 59, 71]) (sp := chkWindow_sp) 3000 (bF 1 (bT 1 [])) [iD r0, .tup [iD (Int.ofNat 1), iD l8], .tup [iD (Int.ofNat 0)], iD r9] [c_bn b3_, c_le 2, c_b b66_] [k_c f4_, k_l k54_ (bT 1 []) [.tup [iD (Int.ofNat 1), iD l8], .tup [iD (Int.ofNat 0)], iD r9] [.tup [iD (Int.ofNat 0)], iD r9], k_l k61_ (bT 1 []) [.tup [iD (Int.ofNat 0)], iD r9] [iD r9], k_c f64_] (by kernel_rfl)
      have h67_ := (if_neg b66_).symm.trans h65_
      have b68_ : r9 = (0 : Int) := by first | exact b66_ | simpa using b66_
      obtain ⟨r10, f69_, h70_⟩ := pullD_elim h67_
      replace f69_ := m_52_ok f69_
      obtain ⟨r11, f71_, h72_⟩ := pullD_elim h70_
      replace f71_ := m_52_ok f71_
      by_cases b73_ : IntKind.i64.wrap (r10 + r11) ≠ (0 : Int)
      · have h74_ := (if_pos b73_).symm.trans h72_
        obtain rfl := Option.some.inj h74_
        exact con_pc (op := true) (I := [17, 50, 59, 71]) (sp := chkWindow_sp) 3000 (bF 2 (bT 1 [])) [iD r0, .tup [iD (Int.ofNat 1), iD l8], .tup [iD (Int.ofNat 0)], iD r9, iD r10, iD r11] [c_bn b3_, c_le 2, c_bn b68_, c_b b73_] [k_c f4_, k_l k54_ (bF 1 (bT 1 [])) [.tup [iD (Int.ofNat 1), iD l8], .tup [iD (Int.ofNat 0)], iD r9, iD r10, iD r11] [.tup [iD (Int.ofNat 0)], iD r9, iD r10, iD r11], k_l k61_ (bF 1 (bT 1 [])) [.tup [iD (Int.ofNat 0)], iD r9, iD r10, iD r11] [iD r9, iD r10, iD r11], k_c f64_, k_c f69_, k_c f71_] (by kernel_rfl)
      have h74_ := (if_neg b73_).symm.trans h72_
      have b75_ : IntKind.i64.wrap (r10 + r11) = (0 : Int) := by first | exact b73_ | simpa using b73_
      obtain rfl := Option.some.inj h74_
      exact con_pc (op := true) (I := [17, 50, 59, 71]) (sp := chkWindow_sp) 3000 (bF 3 []) [iD r0, .tup [iD (Int.ofNat 1), iD l8], .tup [iD (Int.ofNat 0)], iD r9, iD r10, iD r11] [c_bn b3_, c_le 2, c_bn b68_, c_bn b75_] [k_c f4_, k_l k54_ (bF 2 []) [.tup [iD (Int.ofNat 1), iD l8], .tup [iD (Int.ofNat 0)], iD r9, iD r10, iD r11] [.tup [iD (Int.ofNat 0)], iD r9, iD r10, iD r11], k_l k61_ (bF 2 []) [.tup [iD (Int.ofNat 0)], iD r9, iD r10, iD r11] [iD r9, iD r10, iD r11], k_c f64_, k_c f69_, k_c f71_] (by kernel_rfl)
    have h76_ := (if_neg j59_).symm.trans h58_
    clear h58_
    by_cases j77_ : j = 1
    · have h80_ := (if_pos j77_).symm.trans h76_
      clear h76_
      subst j77_
      obtain ⟨l12, e78_, h81_⟩ := pullD_elim h80_
      clear h80_
      obtain rfl := tup_inj e78_
      have k79_ := chkWindow_L71_2_1_in1 ka ca kb cb e57_
      obtain ⟨r13, f82_, h83_⟩ := pullD_elim h81_
      replace f82_ := m_47_ok f82_
      by_cases b84_ : r13 ≠ (0 : Int)
      · have h85_ := (if_pos b84_).symm.trans h83_
        obtain rfl := Option.some.inj h85_
        exact con_pc (op := true) (I := [17, 50, 59, 71]) (sp := chkWindow_sp) 3000 (bF 1 (bT 1 [])) [iD r0, .tup [iD (Int.ofNat 1), iD l8], .tup [iD (Int.ofNat 1), iD l12], iD r13] [c_bn b3_, c_le 2, c_b b84_] [k_c f4_, k_l k54_ (bT 1 []) [.tup [iD (Int.ofNat 1), iD l8], .tup [iD (Int.ofNat 1), iD l12], iD r13] [.tup [iD (Int.ofNat 1), iD l12], iD r13], k_l k79_ (bT 1 []) [.tup [iD (Int.ofNat 1), iD l12], iD r13] [iD r13], k_c f82_] (by kernel_rfl)
      have h85_ := (if_neg b84_).symm.trans h83_
      have b86_ : r13 = (0 : Int) := by first | exact b84_ | simpa using b84_
      obtain ⟨r14, f87_, h88_⟩ := pullD_elim h85_
      replace f87_ := m_52_ok f87_
      obtain ⟨r15, f89_, h90_⟩ := pullD_elim h88_
      replace f89_ := m_52_ok f89_
      by_cases b91_ : IntKind.i64.wrap (r14 + r15) ≠ (0 : Int)
      · have h92_ := (if_pos b91_).symm.trans h90_
        obtain rfl := Option.some.inj h92_
        exact con_pc (op := true) (I := [17, 50, 59, 71]) (sp := chkWindow_sp) 3000 (bF 2 (bT 1 [])) [iD r0, .tup [iD (Int.ofNat 1), iD l8], .tup [iD (Int.ofNat 1), iD l12], iD r13, iD r14, iD r15] [c_bn b3_, c_le 2, c_bn b86_, c_b b91_] [k_c f4_, k_l k54_ (bF 1 (bT 1 [])) [.tup [iD (Int.ofNat 1), iD l8], .tup [iD (Int.ofNat 1), iD l12], iD r13, iD r14, iD r15] [.tup [iD (Int.ofNat 1), iD l12], iD r13, iD r14, iD r15], k_l k79_ (bF 1 (bT 1 [])) [.tup [iD (Int.ofNat 1), iD l12], iD r13, iD r14, iD r15] [iD r13, iD r14, iD r15], k_c f82_, k_c f87_, k_c f89_] (by kernel_rfl)
      have h92_ := (if_neg b91_).symm.trans h90_
      have b93_ : IntKind.i64.wrap (r14 + r15) = (0 : Int) := by first | exact b91_ | simpa using b91_
      obtain rfl := Option.some.inj h92_
      exact con_pc (op := true) (I := [17, 50, 59, 71]) (sp := chkWindow_sp) 3000 (bF 3 []) [iD r0, .tup [iD (Int.ofNat 1), iD l8], .tup [iD (Int.ofNat 1), iD l12], iD r13, iD r14, iD r15] [c_bn b3_, c_le 2, c_bn b86_, c_bn b93_] [k_c f4_, k_l k54_ (bF 2 []) [.tup [iD (Int.ofNat 1), iD l8], .tup [iD (Int.ofNat 1), iD l12], iD r13, iD r14, iD r15] [.tup [iD (Int.ofNat 1), iD l12], iD r13, iD r14, iD r15], k_l k79_ (bF 2 []) [.tup [iD (Int.ofNat 1), iD l12], iD r13, iD r14, iD r15] [iD r13, iD r14, iD r15], k_c f82_, k_c f87_, k_c f89_] (by kernel_rfl)
    have h94_ := (if_neg j77_).symm.trans h76_
    clear h76_
    cases h94_
  have h95_ := (if_neg j52_).symm.trans h51_
  clear h51_
  cases h95_
def m_17 (ds : List D) : Option D := pullD (α := Nat × (List D) × Nat × (List D)) (some (.tup ds)) (fun d => ((D.ln (D.at (D.at d 0) 0)), (D.lc (D.at (D.at d 0) 0)), (D.ln (D.at (D.at d 0) 1)), (D.lc (D.at (D.at d 0) 1)))) (fun (ka, ca, kb, cb) => .tup [.agg [.list ka ca, .list kb cb]]) fun (ka, ca, kb, cb) => chkWindow_M ka ca kb cb
theorem m_17_ok {ds : List D} {r : D} (h : m_17 ds = some r) : Con 17 ds r := by
  unfold m_17 at h
  obtain ⟨⟨ka, ca, kb, cb⟩, e0, h0⟩ := pullD_elim h
  obtain rfl := tup_inj e0
  exact chkWindow_M_ok ka ca kb cb h0
theorem m_17_eq (ka : Nat) (ca : List D) (kb : Nat) (cb : List D) : m_17 [.agg [.list ka ca, .list kb cb]] = chkWindow_M ka ca kb cb := pullD_some (ka, ca, kb, cb) rfl rfl
def chkdWindow_sp : List LSpec := []
def chkdWindow_M (ka : Nat) (ca : List D) (kb : Nat) (cb : List D) : Option D := pullD (α := Int) (m_17 [.agg [.list ka ca, .list kb cb]]) (fun d => ((D.vi d))) (fun r0 => iD r0) fun r0 => ((if r0 ≠ (0 : Int) then some (.tup [.agg [.list 0 [], .list 0 []], iD r0]) else some (.tup [.agg [.list ka ca, .list kb cb], iD (0 : Int)])))
theorem chkdWindow_M_ok (ka : Nat) (ca : List D) (kb : Nat) (cb : List D) {r : D} (h : chkdWindow_M ka ca kb cb = some r) : Con 40 [.agg [.list ka ca, .list kb cb]] r := by
  unfold chkdWindow_M at h
  obtain ⟨r0, f1_, h2_⟩ := pullD_elim h
  replace f1_ := m_17_ok f1_
  by_cases b3_ : r0 ≠ (0 : Int)
  · have h4_ := (if_pos b3_).symm.trans h2_
    obtain rfl := Option.some.inj h4_
    exact con_pc (op := true) (I := [40]) (sp := chkdWindow_sp) 3000 (bT 1 []) [iD r0] [c_b b3_] [k_c f1_] (by kernel_rfl)
  have h4_ := (if_neg b3_).symm.trans h2_
  have b5_ : r0 = (0 : Int) := by first | exact b3_ | simpa using b3_
  obtain rfl := Option.some.inj h4_
  exact con_pc (op := true) (I := [40]) (sp := chkdWindow_sp) 3000 (bF 1 []) [iD r0] [c_bn b5_] [k_c f1_] (by kernel_rfl)
def m_40 (ds : List D) : Option D := pullD (α := Nat × (List D) × Nat × (List D)) (some (.tup ds)) (fun d => ((D.ln (D.at (D.at d 0) 0)), (D.lc (D.at (D.at d 0) 0)), (D.ln (D.at (D.at d 0) 1)), (D.lc (D.at (D.at d 0) 1)))) (fun (ka, ca, kb, cb) => .tup [.agg [.list ka ca, .list kb cb]]) fun (ka, ca, kb, cb) => chkdWindow_M ka ca kb cb
theorem m_40_ok {ds : List D} {r : D} (h : m_40 ds = some r) : Con 40 ds r := by
  unfold m_40 at h
  obtain ⟨⟨ka, ca, kb, cb⟩, e0, h0⟩ := pullD_elim h
  obtain rfl := tup_inj e0
  exact chkdWindow_M_ok ka ca kb cb h0
theorem m_40_eq (ka : Nat) (ca : List D) (kb : Nat) (cb : List D) : m_40 [.agg [.list ka ca, .list kb cb]] = chkdWindow_M ka ca kb cb := pullD_some (ka, ca, kb, cb) rfl rfl
def residuals_x3_0 : LExit := ⟨some 0, [.made 3], (4 :: (5 :: (List.range' 14 13)))⟩
def residuals_sp : List LSpec := [⟨41, 3, [residuals_x3_0]⟩]
def residuals_L3_E (ka : Nat) (ca : List D) (kb : Nat) (cb : List D)  : List AV × AHeap := ([.agg [.dsl 0, .dsl 1], .ptr 2 0, .pure (.slice none 0 0), .bslx 4 0 (0 + ka) 0, .pure (.tuple #[]), .pure (.tuple #[]), .ptr 2 0, .ptr 2 0, .dsl 0, .bslx 4 0 (0 + ka) 0, .ptr 2 0, .ptr 2 1, .dsl 1, .pure (.int .i64 (kb : Int)), .pure (.int .i64 (0 : Int)), .pure (.tuple #[]), .pure (.tuple #[]), .pure (.tuple #[]), .pure (.tuple #[]), .pure (.tuple #[]), .pure (.tuple #[]), .pure (.tuple #[]), .pure (.tuple #[]), .pure (.tuple #[]), .pure (.tuple #[]), .pure (.tuple #[]), .pure (.tuple #[]), .pure (.tuple #[]), .pure (.tuple #[])], [(4, { cells := [], opn := some 1, kind := .big ca }), (2, { cells := [.dsl 0, .dsl 1], opn := none, kind := .cells }), (1, { cells := [], opn := none, kind := .deep kb cb }), (0, { cells := [], opn := none, kind := .deep ka ca })])
def residuals_L3_A : LoopAt := ⟨41, loopAt Try.prog 41 0, 5, 21, 4, noFrame⟩
theorem residuals_L3_ok : (residuals_L3_A).OK := ⟨by show 5 ≤ 21; decide, by show 4 ≤ 5; decide, by kernel_rfl, rfl⟩
def residuals_L3_gs (ka : Nat) (ca : List D) (kb : Nat) (cb : List D)  : Go.Ev.Rd → Option GS
  | .next 0 ds => ghost [.val 14, .made 3] (4 :: (5 :: (List.range' 15 12))) (residuals_L3_E ka ca kb cb).1 (residuals_L3_E ka ca kb cb).2 5 ds
  | .out 0 ds => ghost residuals_x3_0.live residuals_x3_0.junk (residuals_L3_E ka ca kb cb).1 (residuals_L3_E ka ca kb cb).2 5 ds
  | _ => none
def residuals_L3_ex : Nat → Option Nat
  | 0 => residuals_x3_0.ex
  | _ => none
def residuals_L3_ax : Go.Ev.Rd → AX
  | .next _ _ => .normal
  | .out j _ => axOf (residuals_L3_ex j)
def residuals_L3_S0 (ka : Nat) (ca : List D) (kb : Nat) (cb : List D)  (ds : List D) : Option Go.Ev.Rd := pullD (α := Int × Nat × (List D)) (some (.tup ds)) (fun d => ((D.vi (D.at d 0)), (D.ln (D.at d 1)), (D.lc (D.at d 1)))) (fun (s14, s3n, s3c) => .tup [iD s14, .list s3n s3c]) fun (s14, s3n, s3c) => ((if s14 < (kb : Int) then guardP ((0 : Int) ≤ s14 ∧ s14.toNat < kb) (pullD (α := Int) (readD cb (s14.toNat * 1) 1 false) (fun d => ((D.vi d))) (fun v0 => iD v0) fun v0 => (guardP ((0 : Int) ≤ s14 ∧ s14.toNat < 0 + ka) (pullD (α := Int) (readD s3c (0 + s14.toNat * 1) 1 false) (fun d => ((D.vi d))) (fun v1 => iD v1) fun v1 => (guardP (0 + s14.toNat * 1 + 1 ≤ s3c.length ∧ ∀ (u : D), u ∈ [dCell (.int .i64 (IntKind.i64.wrap (v1 + v0)))] → cellD u) (some (.next 0 [iD (IntKind.i64.wrap (s14 + (1 : Int))), .list (0 + ka) (List.append (List.take (0 + s14.toNat * 1) s3c ++ [dCell (.int .i64 (IntKind.i64.wrap (v1 + v0)))]) (List.drop (0 + s14.toNat * 1 + [dCell (.int .i64 (IntKind.i64.wrap (v1 + v0)))].length) s3c))])))))) else some (.out 0 [.list (0 + ka) s3c])))
def residuals_L3_S (ka : Nat) (ca : List D) (kb : Nat) (cb : List D)  : Go.Ev.Rd → Option Go.Ev.Rd
  | .next 0 ds => residuals_L3_S0 ka ca kb cb ds
  | _ => none
theorem residuals_L3_S_ok (ka : Nat) (ca : List D) (kb : Nat) (cb : List D)  : ∀ s_ t_, residuals_L3_S ka ca kb cb s_ = some t_ → Step (ctx [41, 57] residuals_sp) Tabs residuals_L3_A (stateOf (residuals_L3_gs ka ca kb cb s_)) (stateOf (residuals_L3_gs ka ca kb cb t_)) (residuals_L3_ax t_) ∧ EndOK residuals_L3_A.nx residuals_L3_A.low (residuals_L3_gs ka ca kb cb) t_
  | .next 0 ds, t_, h => by
    have h_ : residuals_L3_S0 ka ca kb cb ds = some t_ := h
    clear h
    unfold residuals_L3_S0 at h_
    obtain ⟨⟨s14, s3n, s3c⟩, e0, h0⟩ := pullD_elim h_
    clear h_
    obtain rfl := tup_inj e0
    by_cases b1_ : s14 < (kb : Int)
    · have h2_ := (if_pos b1_).symm.trans h0
      obtain ⟨f3_, h4_⟩ := guardP_elim h2_
      obtain ⟨v0, f5_, h6_⟩ := pullD_elim h4_
      replace f5_ := readD_elim f5_
      obtain ⟨f7_, h8_⟩ := guardP_elim h6_
      obtain ⟨v1, f9_, h10_⟩ := pullD_elim h8_
      replace f9_ := readD_elim f9_
      obtain ⟨f11_, h12_⟩ := guardP_elim h10_
      obtain rfl := Option.some.inj h12_
      exact ⟨step_pc 3000 (bT 1 []) [iD v0, iD v1] [c_d b1_, c_f f3_, c_f f5_, c_f f7_, c_f f9_, c_f f7_, c_f f11_] [] _ rfl (by kernel_rfl) (by kernel_rfl) (by kernel_rfl) (by kernel_rfl) (by kernel_rfl) (by kernel_rfl), trivial⟩
    have h2_ := (if_neg b1_).symm.trans h0
    obtain rfl := Option.some.inj h2_
    exact ⟨step_pc 3000 (bF 1 []) [] [c_n b1_] [] _ rfl (by kernel_rfl) (by kernel_rfl) (by kernel_rfl) (by kernel_rfl) (by kernel_rfl) (by kernel_rfl), by kernel_rfl, by kernel_rfl⟩
  | .next (_ + 1) _, _, h => by cases h
  | .out _ _, _, h => by cases h
theorem residuals_L3_go (ka : Nat) (ca : List D) (kb : Nat) (cb : List D)  {q : Nat} {ds : List D} {j : Nat} {es : List D} (h : runR (residuals_L3_S ka ca kb cb) (.next q ds) = some (.out j es)) : Runs (ctx [41, 57] residuals_sp) Tabs residuals_L3_A (stateOf (residuals_L3_gs ka ca kb cb (.next q ds))) (stateOf (residuals_L3_gs ka ca kb cb (.out j es))) (residuals_L3_ax (.out j es)) ∧ (nxtOf (residuals_L3_gs ka ca kb cb (.out j es)), lowGS (residuals_L3_gs ka ca kb cb (.out j es))) = (residuals_L3_A.nx, residuals_L3_A.low) :=
  runs_of' (good true _ _) residuals_L3_ok (ax := residuals_L3_ax) (fun _ _ => rfl) (fun _ _ => axOf_end _) (residuals_L3_S_ok ka ca kb cb) h
theorem residuals_L3_in0 (ka : Nat) (ca : List D) (kb : Nat) (cb : List D)  {es : List D} (h : runR (residuals_L3_S ka ca kb cb) (.next 0 [iD ((0 : Int)), .list ((0 + ka)) (ca)]) = some (.out 0 es)) : LoopC (loopAt Try.prog 41 0) (residuals_L3_E ka ca kb cb) 5 noFrame residuals_x3_0 es :=
  have r := residuals_L3_go ka ca kb cb h
  loopin_as rfl (loop_in (l := residuals_L3_A) (E := (residuals_L3_E ka ca kb cb)) (S := stateOf (residuals_L3_gs ka ca kb cb (.next 0 [iD ((0 : Int)), .list ((0 + ka)) (ca)]))) (ns := nsOf (residuals_L3_gs ka ca kb cb (.next 0 [iD ((0 : Int)), .list ((0 + ka)) (ca)]))) residuals_L3_ok r.1 r.2 (by kernel_rfl) (by kernel_rfl) (by kernel_rfl) (by kernel_rfl))
def residuals_M (ka : Nat) (ca : List D) (kb : Nat) (cb : List D) : Option D := guardP (0 < ka) (guardP ((∀ (u : D), u ∈ ca → cellD u) ∧ 0 ≤ 0 ∧ (0 + ka) * 8 ≤ 140737488355328 ∧ 0 + ka ≤ 4611686018427387904) (guardP (ca.length = ka * 1) (bindL (runR (residuals_L3_S ka ca kb cb) (.next 0 [iD ((0 : Int)), .list ((0 + ka)) (ca)])) fun j ds => (if j = 0 then pullD (α := Nat × (List D)) (some (.tup ds)) (fun d => ((D.ln (D.at d 0)), (D.lc (D.at d 0)))) (fun (k0, c1) => .tup [.list k0 c1]) fun (k0, c1) => (guardP ((0 + (0 + ka)) * 1 ≤ c1.length ∧ 0 < 1) (pullD (α := Nat × (List D)) (m_66 [.list (0 + ka) c1]) (fun d => ((D.ln d), (D.lc d))) (fun (k2, c3) => .list k2 c3) fun (k2, c3) => (some (.list k2 c3)))) else none))))
theorem residuals_M_ok (ka : Nat) (ca : List D) (kb : Nat) (cb : List D) {r : D} (h : residuals_M ka ca kb cb = some r) : Con 41 [.agg [.list ka ca, .list kb cb]] r := by
  unfold residuals_M at h
  obtain ⟨f1_, h2_⟩ := guardP_elim h
  obtain ⟨f3_, h4_⟩ := guardP_elim h2_
  obtain ⟨f5_, h6_⟩ := guardP_elim h4_
  obtain ⟨j, ds, e7_, h8_⟩ := bindL_elim h6_
  by_cases j9_ : j = 0
  · have h12_ := (if_pos j9_).symm.trans h8_
    clear h8_
    subst j9_
    obtain ⟨⟨k0, c1⟩, e10_, h13_⟩ := pullD_elim h12_
    clear h12_
    obtain rfl := tup_inj e10_
    have k11_ := residuals_L3_in0 ka ca kb cb e7_
    obtain ⟨f14_, h15_⟩ := guardP_elim h13_
    obtain ⟨⟨k2, c3⟩, f16_, h17_⟩ := pullD_elim h15_
    replace f16_ := m_66_ok f16_
    obtain rfl := Option.some.inj h17_
    exact con_pc (op := true) (I := [41, 57]) (sp := residuals_sp) 3000 (bF 1 []) [.tup [iD (Int.ofNat 0), .list k0 c1], .list k2 c3] [c_f f1_, c_F, c_f f3_, c_f f5_, c_f f14_] [k_l k11_ [] [.tup [iD (Int.ofNat 0), .list k0 c1], .list k2 c3] [.list k2 c3], k_c f16_] (by kernel_rfl)
  have h18_ := (if_neg j9_).symm.trans h8_
  clear h8_
  cases h18_
def m_41 (ds : List D) : Option D := pullD (α := Nat × (List D) × Nat × (List D)) (some (.tup ds)) (fun d => ((D.ln (D.at (D.at d 0) 0)), (D.lc (D.at (D.at d 0) 0)), (D.ln (D.at (D.at d 0) 1)), (D.lc (D.at (D.at d 0) 1)))) (fun (ka, ca, kb, cb) => .tup [.agg [.list ka ca, .list kb cb]]) fun (ka, ca, kb, cb) => residuals_M ka ca kb cb
theorem m_41_ok {ds : List D} {r : D} (h : m_41 ds = some r) : Con 41 ds r := by
  unfold m_41 at h
  obtain ⟨⟨ka, ca, kb, cb⟩, e0, h0⟩ := pullD_elim h
  obtain rfl := tup_inj e0
  exact residuals_M_ok ka ca kb cb h0
theorem m_41_eq (ka : Nat) (ca : List D) (kb : Nat) (cb : List D) : m_41 [.agg [.list ka ca, .list kb cb]] = residuals_M ka ca kb cb := pullD_some (ka, ca, kb, cb) rfl rfl
def radial_x3_0 : LExit := ⟨some 0, [.cgrow 3 0 1, .cgrow 3 1 1], (4 :: (5 :: (6 :: (List.range' 11 33))))⟩
def radial_x3_1 : LExit := ⟨some 0, [.cnil 3 0, .cgrow 3 1 1], (4 :: (5 :: (6 :: (List.range' 11 33))))⟩
def radial_x3_2 : LExit := ⟨some 0, [.cgrow 3 0 1, .cnil 3 1], (4 :: (5 :: (6 :: (List.range' 11 33))))⟩
def radial_x3_3 : LExit := ⟨some 0, [.cnil 3 0, .cnil 3 1], (4 :: (5 :: (6 :: (List.range' 11 33))))⟩
def radial_sp : List LSpec := [⟨46, 3, [radial_x3_0, radial_x3_1, radial_x3_2, radial_x3_3]⟩]
def radial_L3_E (ka : Nat) (ca : List D) (kb : Nat) (cb : List D)  : List AV × AHeap := ([.agg [.dsl 0, .dsl 1], .ptr 2 0, .ptr 3 0, .ptr 4 0, .pure (.tuple #[]), .pure (.tuple #[]), .pure (.tuple #[]), .ptr 2 0, .ptr 2 0, .dsl 0, .pure (.int .i64 (ka : Int)), .pure (.int .i64 (0 : Int)), .pure (.tuple #[]), .pure (.tuple #[]), .pure (.tuple #[]), .pure (.tuple #[]), .pure (.tuple #[]), .pure (.tuple #[]), .pure (.tuple #[]), .pure (.tuple #[]), .pure (.tuple #[]), .pure (.tuple #[]), .pure (.tuple #[]), .pure (.tuple #[]), .pure (.tuple #[]), .pure (.tuple #[]), .pure (.tuple #[]), .pure (.tuple #[]), .pure (.tuple #[]), .pure (.tuple #[]), .pure (.tuple #[]), .pure (.tuple #[]), .pure (.tuple #[]), .pure (.tuple #[]), .pure (.tuple #[]), .pure (.tuple #[]), .pure (.tuple #[]), .pure (.tuple #[]), .pure (.tuple #[]), .pure (.tuple #[]), .pure (.tuple #[]), .pure (.tuple #[]), .pure (.tuple #[]), .pure (.tuple #[]), .pure (.tuple #[])], [(4, { cells := [.pure (.slice none 0 0), .pure (.slice none 0 0)], opn := none, kind := .cells }), (3, { cells := [.pure (.slice none 0 0), .pure (.slice none 0 0)], opn := none, kind := .cells }), (2, { cells := [.dsl 0, .dsl 1], opn := none, kind := .cells }), (1, { cells := [], opn := none, kind := .deep kb cb }), (0, { cells := [], opn := none, kind := .deep ka ca })])
def radial_L3_A : LoopAt := ⟨46, loopAt Try.prog 46 0, 5, 43, 4, noFrame⟩
theorem radial_L3_ok : (radial_L3_A).OK := ⟨by show 5 ≤ 43; decide, by show 4 ≤ 5; decide, by kernel_rfl, rfl⟩
def radial_L3_gs (ka : Nat) (ca : List D) (kb : Nat) (cb : List D)  : Go.Ev.Rd → Option GS
  | .next 0 ds => ghost [.val 11, .cgrow 3 0 1, .cgrow 3 1 1] (4 :: (5 :: (6 :: (List.range' 12 32)))) (radial_L3_E ka ca kb cb).1 (radial_L3_E ka ca kb cb).2 5 ds
  | .next 1 ds => ghost [.val 11, .cnil 3 0, .cgrow 3 1 1] (4 :: (5 :: (6 :: (List.range' 12 32)))) (radial_L3_E ka ca kb cb).1 (radial_L3_E ka ca kb cb).2 5 ds
  | .next 2 ds => ghost [.val 11, .cgrow 3 0 1, .cnil 3 1] (4 :: (5 :: (6 :: (List.range' 12 32)))) (radial_L3_E ka ca kb cb).1 (radial_L3_E ka ca kb cb).2 5 ds
  | .next 3 ds => ghost [.val 11, .cnil 3 0, .cnil 3 1] (4 :: (5 :: (6 :: (List.range' 12 32)))) (radial_L3_E ka ca kb cb).1 (radial_L3_E ka ca kb cb).2 5 ds
  | .out 0 ds => ghost radial_x3_0.live radial_x3_0.junk (radial_L3_E ka ca kb cb).1 (radial_L3_E ka ca kb cb).2 5 ds
  | .out 1 ds => ghost radial_x3_1.live radial_x3_1.junk (radial_L3_E ka ca kb cb).1 (radial_L3_E ka ca kb cb).2 5 ds
  | .out 2 ds => ghost radial_x3_2.live radial_x3_2.junk (radial_L3_E ka ca kb cb).1 (radial_L3_E ka ca kb cb).2 5 ds
  | .out 3 ds => ghost radial_x3_3.live radial_x3_3.junk (radial_L3_E ka ca kb cb).1 (radial_L3_E ka ca kb cb).2 5 ds
  | _ => none
def radial_L3_ex : Nat → Option Nat
  | 0 => radial_x3_0.ex
  | 1 => radial_x3_1.ex
  | 2 => radial_x3_2.ex
  | 3 => radial_x3_3.ex
  | _ => none
def radial_L3_ax : Go.Ev.Rd → AX
  | .next _ _ => .normal
  | .out j _ => axOf (radial_L3_ex j)
def radial_L3_S0 (ka : Nat) (ca : List D) (kb : Nat) (cb : List D)  (ds : List D) : Option Go.Ev.Rd := pullD (α := Int × Nat × (List D) × Nat × (List D)) (some (.tup ds)) (fun d => ((D.vi (D.at d 0)), (D.ln (D.at d 1)), (D.lc (D.at d 1)), (D.ln (D.at d 2)), (D.lc (D.at d 2)))) (fun (s11, s3_0n, s3_0c, s3_1n, s3_1c) => .tup [iD s11, .list s3_0n s3_0c, .list s3_1n s3_1c]) fun (s11, s3_0n, s3_0c, s3_1n, s3_1c) => ((if s11 < (ka : Int) then guardP ((0 : Int) ≤ s11 ∧ s11.toNat < ka) (pullD (α := Int) (readD ca (s11.toNat * 1) 1 false) (fun d => ((D.vi d))) (fun v0 => iD v0) fun v0 => (guardP ((0 : Int) ≤ s11 ∧ s11.toNat < kb) (pullD (α := Int) (readD cb (s11.toNat * 1) 1 false) (fun d => ((D.vi d))) (fun v1 => iD v1) fun v1 => (guardP ((∀ (u : D), u ∈ [dCell (.int .i64 (IntKind.i64.wrap (v0 * IntKind.i64.wrap (v0 - v1))))] → cellD u) ∧ s3_0n * 1 ≤ s3_0c.length ∧ (s3_0n + (0 + 1)) * 8 ≤ 140737488355328 ∧ s3_0n + (0 + 1) ≤ 4611686018427387904) (guardP ((∀ (u : D), u ∈ [dCell (.int .i64 (IntKind.i64.wrap (IntKind.i64.wrap ((0 : Int) - v1) * IntKind.i64.wrap (v0 - v1))))] → cellD u) ∧ s3_1n * 1 ≤ s3_1c.length ∧ (s3_1n + (0 + 1)) * 8 ≤ 140737488355328 ∧ s3_1n + (0 + 1) ≤ 4611686018427387904) (some (.next 0 [iD (IntKind.i64.wrap (s11 + (1 : Int))), .list (s3_0n + (0 + 1)) (List.append (List.take (s3_0n * 1) s3_0c) [dCell (.int .i64 (IntKind.i64.wrap (v0 * IntKind.i64.wrap (v0 - v1))))]), .list (s3_1n + (0 + 1)) (List.append (List.take (s3_1n * 1) s3_1c) [dCell (.int .i64 (IntKind.i64.wrap (IntKind.i64.wrap ((0 : Int) - v1) * IntKind.i64.wrap (v0 - v1))))])]))))))) else some (.out 0 [.list s3_0n s3_0c, .list s3_1n s3_1c])))
def radial_L3_S1 (ka : Nat) (ca : List D) (kb : Nat) (cb : List D)  (ds : List D) : Option Go.Ev.Rd := pullD (α := Int × Nat × (List D)) (some (.tup ds)) (fun d => ((D.vi (D.at d 0)), (D.ln (D.at d 2)), (D.lc (D.at d 2)))) (fun (s11, s3_1n, s3_1c) => .tup [iD s11, .one (.tuple #[]), .list s3_1n s3_1c]) fun (s11, s3_1n, s3_1c) => ((if s11 < (ka : Int) then guardP ((0 : Int) ≤ s11 ∧ s11.toNat < ka) (pullD (α := Int) (readD ca (s11.toNat * 1) 1 false) (fun d => ((D.vi d))) (fun v0 => iD v0) fun v0 => (guardP ((0 : Int) ≤ s11 ∧ s11.toNat < kb) (pullD (α := Int) (readD cb (s11.toNat * 1) 1 false) (fun d => ((D.vi d))) (fun v1 => iD v1) fun v1 => (guardP ((∀ (u : D), u ∈ [dCell (.int .i64 (IntKind.i64.wrap (IntKind.i64.wrap ((0 : Int) - v1) * IntKind.i64.wrap (v0 - v1))))] → cellD u) ∧ s3_1n * 1 ≤ s3_1c.length ∧ (s3_1n + (0 + 1)) * 8 ≤ 140737488355328 ∧ s3_1n + (0 + 1) ≤ 4611686018427387904) (some (.next 0 [iD (IntKind.i64.wrap (s11 + (1 : Int))), .list 1 [iD (IntKind.i64.wrap (v0 * IntKind.i64.wrap (v0 - v1)))], .list (s3_1n + (0 + 1)) (List.append (List.take (s3_1n * 1) s3_1c) [dCell (.int .i64 (IntKind.i64.wrap (IntKind.i64.wrap ((0 : Int) - v1) * IntKind.i64.wrap (v0 - v1))))])])))))) else some (.out 1 [.one (.tuple #[]), .list s3_1n s3_1c])))
def radial_L3_S2 (ka : Nat) (ca : List D) (kb : Nat) (cb : List D)  (ds : List D) : Option Go.Ev.Rd := pullD (α := Int × Nat × (List D)) (some (.tup ds)) (fun d => ((D.vi (D.at d 0)), (D.ln (D.at d 1)), (D.lc (D.at d 1)))) (fun (s11, s3_0n, s3_0c) => .tup [iD s11, .list s3_0n s3_0c, .one (.tuple #[])]) fun (s11, s3_0n, s3_0c) => ((if s11 < (ka : Int) then guardP ((0 : Int) ≤ s11 ∧ s11.toNat < ka) (pullD (α := Int) (readD ca (s11.toNat * 1) 1 false) (fun d => ((D.vi d))) (fun v0 => iD v0) fun v0 => (guardP ((0 : Int) ≤ s11 ∧ s11.toNat < kb) (pullD (α := Int) (readD cb (s11.toNat * 1) 1 false) (fun d => ((D.vi d))) (fun v1 => iD v1) fun v1 => (guardP ((∀ (u : D), u ∈ [dCell (.int .i64 (IntKind.i64.wrap (v0 * IntKind.i64.wrap (v0 - v1))))] → cellD u) ∧ s3_0n * 1 ≤ s3_0c.length ∧ (s3_0n + (0 + 1)) * 8 ≤ 140737488355328 ∧ s3_0n + (0 + 1) ≤ 4611686018427387904) (some (.next 0 [iD (IntKind.i64.wrap (s11 + (1 : Int))), .list (s3_0n + (0 + 1)) (List.append (List.take (s3_0n * 1) s3_0c) [dCell (.int .i64 (IntKind.i64.wrap (v0 * IntKind.i64.wrap (v0 - v1))))]), .list 1 [iD (IntKind.i64.wrap (IntKind.i64.wrap ((0 : Int) - v1) * IntKind.i64.wrap (v0 - v1)))]])))))) else some (.out 2 [.list s3_0n s3_0c, .one (.tuple #[])])))
def radial_L3_S3 (ka : Nat) (ca : List D) (kb : Nat) (cb : List D)  (ds : List D) : Option Go.Ev.Rd := pullD (α := Int) (some (.tup ds)) (fun d => ((D.vi (D.at d 0)))) (fun s11 => .tup [iD s11, .one (.tuple #[]), .one (.tuple #[])]) fun s11 => ((if s11 < (ka : Int) then guardP ((0 : Int) ≤ s11 ∧ s11.toNat < ka) (pullD (α := Int) (readD ca (s11.toNat * 1) 1 false) (fun d => ((D.vi d))) (fun v0 => iD v0) fun v0 => (guardP ((0 : Int) ≤ s11 ∧ s11.toNat < kb) (pullD (α := Int) (readD cb (s11.toNat * 1) 1 false) (fun d => ((D.vi d))) (fun v1 => iD v1) fun v1 => (some (.next 0 [iD (IntKind.i64.wrap (s11 + (1 : Int))), .list 1 [iD (IntKind.i64.wrap (v0 * IntKind.i64.wrap (v0 - v1)))], .list 1 [iD (IntKind.i64.wrap (IntKind.i64.wrap ((0 : Int) - v1) * IntKind.i64.wrap (v0 - v1)))]]))))) else some (.out 3 [.one (.tuple #[]), .one (.tuple #[])])))
def radial_L3_S (ka : Nat) (ca : List D) (kb : Nat) (cb : List D)  : Go.Ev.Rd → Option Go.Ev.Rd
  | .next 0 ds => radial_L3_S0 ka ca kb cb ds
  | .next 1 ds => radial_L3_S1 ka ca kb cb ds
  | .next 2 ds => radial_L3_S2 ka ca kb cb ds
  | .next 3 ds => radial_L3_S3 ka ca kb cb ds
  | _ => none
theorem radial_L3_S_ok (ka : Nat) (ca : List D) (kb : Nat) (cb : List D)  : ∀ s_ t_, radial_L3_S ka ca kb cb s_ = some t_ → Step (ctx [46] radial_sp) Tabs radial_L3_A (stateOf (radial_L3_gs ka ca kb cb s_)) (stateOf (radial_L3_gs ka ca kb cb t_)) (radial_L3_ax t_) ∧ EndOK radial_L3_A.nx radial_L3_A.low (radial_L3_gs ka ca kb cb) t_
  | .next 0 ds, t_, h => by
    have h_ : radial_L3_S0 ka ca kb cb ds = some t_ := h
    clear h
    unfold radial_L3_S0 at h_
    obtain ⟨⟨s11, s3_0n, s3_0c, s3_1n, s3_1c⟩, e0, h0⟩ := pullD_elim h_
    clear h_
    obtain rfl := tup_inj e0
    by_cases b1_ : s11 < (ka : Int)
    · have h2_ := (if_pos b1_).symm.trans h0
      obtain ⟨f3_, h4_⟩ := guardP_elim h2_
      obtain ⟨v0, f5_, h6_⟩ := pullD_elim h4_
      replace f5_ := readD_elim f5_
      obtain ⟨f7_, h8_⟩ := guardP_elim h6_
      obtain ⟨v1, f9_, h10_⟩ := pullD_elim h8_
      replace f9_ := readD_elim f9_
      obtain ⟨f11_, h12_⟩ := guardP_elim h10_
      obtain ⟨f13_, h14_⟩ := guardP_elim h12_
      obtain rfl := Option.some.inj h14_
      exact ⟨step_pc 3000 (bT 1 []) [iD v0, iD v1] [c_d b1_, c_f f3_, c_f f5_, c_f f7_, c_f f9_, c_f f11_, c_f f13_] [] _ rfl (by kernel_rfl) (by kernel_rfl) (by kernel_rfl) (by kernel_rfl) (by kernel_rfl) (by kernel_rfl), trivial⟩
    have h2_ := (if_neg b1_).symm.trans h0
    obtain rfl := Option.some.inj h2_
    exact ⟨step_pc 3000 (bF 1 []) [] [c_n b1_] [] _ rfl (by kernel_rfl) (by kernel_rfl) (by kernel_rfl) (by kernel_rfl) (by kernel_rfl) (by kernel_rfl), by kernel_rfl, by kernel_rfl⟩
  | .next 1 ds, t_, h => by
    have h_ : radial_L3_S1 ka ca kb cb ds = some t_ := h
    clear h
    unfold radial_L3_S1 at h_
    obtain ⟨⟨s11, s3_1n, s3_1c⟩, e0, h0⟩ := pullD_elim h_
    clear h_
    obtain rfl := tup_inj e0
    by_cases b1_ : s11 < (ka : Int)
    · have h2_ := (if_pos b1_).symm.trans h0
      obtain ⟨f3_, h4_⟩ := guardP_elim h2_
      obtain ⟨v0, f5_, h6_⟩ := pullD_elim h4_
      replace f5_ := readD_elim f5_
      obtain ⟨f7_, h8_⟩ := guardP_elim h6_
      obtain ⟨v1, f9_, h10_⟩ := pullD_elim h8_
      replace f9_ := readD_elim f9_
      obtain ⟨f11_, h12_⟩ := guardP_elim h10_
      obtain rfl := Option.some.inj h12_
      exact ⟨step_pc 3000 (bT 1 []) [iD v0, iD v1] [c_d b1_, c_f f3_, c_f f5_, c_f f7_, c_f f9_, ⟨fact (0 < 0 + 1 ∧ (0 + 1) * 8 ≤ 140737488355328 ∧ 0 + 1 ≤ 4611686018427387904), true, fact_mk (by decide)⟩, c_f f11_] [] _ rfl (by kernel_rfl) (by kernel_rfl) (by kernel_rfl) (by kernel_rfl) (by kernel_rfl) (by kernel_rfl), trivial⟩
    have h2_ := (if_neg b1_).symm.trans h0
    obtain rfl := Option.some.inj h2_
    exact ⟨step_pc 3000 (bF 1 []) [] [c_n b1_] [] _ rfl (by kernel_rfl) (by kernel_rfl) (by kernel_rfl) (by kernel_rfl) (by kernel_rfl) (by kernel_rfl), by kernel_rfl, by kernel_rfl⟩
  | .next 2 ds, t_, h => by
    have h_ : radial_L3_S2 ka ca kb cb ds = some t_ := h
    clear h
    unfold radial_L3_S2 at h_
    obtain ⟨⟨s11, s3_0n, s3_0c⟩, e0, h0⟩ := pullD_elim h_
    clear h_
    obtain rfl := tup_inj e0
    by_cases b1_ : s11 < (ka : Int)
    · have h2_ := (if_pos b1_).symm.trans h0
      obtain ⟨f3_, h4_⟩ := guardP_elim h2_
      obtain ⟨v0, f5_, h6_⟩ := pullD_elim h4_
      replace f5_ := readD_elim f5_
      obtain ⟨f7_, h8_⟩ := guardP_elim h6_
      obtain ⟨v1, f9_, h10_⟩ := pullD_elim h8_
      replace f9_ := readD_elim f9_
      obtain ⟨f11_, h12_⟩ := guardP_elim h10_
      obtain rfl := Option.some.inj h12_
      exact ⟨step_pc 3000 (bT 1 []) [iD v0, iD v1] [c_d b1_, c_f f3_, c_f f5_, c_f f7_, c_f f9_, c_f f11_, ⟨fact (0 < 0 + 1 ∧ (0 + 1) * 8 ≤ 140737488355328 ∧ 0 + 1 ≤ 4611686018427387904), true, fact_mk (by decide)⟩] [] _ rfl (by kernel_rfl) (by kernel_rfl) (by kernel_rfl) (by kernel_rfl) (by kernel_rfl) (by kernel_rfl), trivial⟩
    have h2_ := (if_neg b1_).symm.trans h0
    obtain rfl := Option.some.inj h2_
    exact ⟨step_pc 3000 (bF 1 []) [] [c_n b1_] [] _ rfl (by kernel_rfl) (by kernel_rfl) (by kernel_rfl) (by kernel_rfl) (by kernel_rfl) (by kernel_rfl), by kernel_rfl, by kernel_rfl⟩
  | .next 3 ds, t_, h => by
    have h_ : radial_L3_S3 ka ca kb cb ds = some t_ := h
    clear h
    unfold radial_L3_S3 at h_
    obtain ⟨s11, e0, h0⟩ := pullD_elim h_
    clear h_
    obtain rfl := tup_inj e0
    by_cases b1_ : s11 < (ka : Int)
    · have h2_ := (if_pos b1_).symm.trans h0
      obtain ⟨f3_, h4_⟩ := guardP_elim h2_
      obtain ⟨v0, f5_, h6_⟩ := pullD_elim h4_
      replace f5_ := readD_elim f5_
      obtain ⟨f7_, h8_⟩ := guardP_elim h6_
      obtain ⟨v1, f9_, h10_⟩ := pullD_elim h8_
      replace f9_ := readD_elim f9_
      obtain rfl := Option.some.inj h10_
      exact ⟨step_pc 3000 (bT 1 []) [iD v0, iD v1] [c_d b1_, c_f f3_, c_f f5_, c_f f7_, c_f f9_, ⟨fact (0 < 0 + 1 ∧ (0 + 1) * 8 ≤ 140737488355328 ∧ 0 + 1 ≤ 4611686018427387904), true, fact_mk (by decide)⟩, ⟨fact (0 < 0 + 1 ∧ (0 + 1) * 8 ≤ 140737488355328 ∧ 0 + 1 ≤ 4611686018427387904), true, fact_mk (by decide)⟩] [] _ rfl (by kernel_rfl) (by kernel_rfl) (by kernel_rfl) (by kernel_rfl) (by kernel_rfl) (by kernel_rfl), trivial⟩
    have h2_ := (if_neg b1_).symm.trans h0
    obtain rfl := Option.some.inj h2_
    exact ⟨step_pc 3000 (bF 1 []) [] [c_n b1_] [] _ rfl (by kernel_rfl) (by kernel_rfl) (by kernel_rfl) (by kernel_rfl) (by kernel_rfl) (by kernel_rfl), by kernel_rfl, by kernel_rfl⟩
  | .next (_ + 4) _, _, h => by cases h
  | .out _ _, _, h => by cases h
theorem radial_L3_go (ka : Nat) (ca : List D) (kb : Nat) (cb : List D)  {q : Nat} {ds : List D} {j : Nat} {es : List D} (h : runR (radial_L3_S ka ca kb cb) (.next q ds) = some (.out j es)) : Runs (ctx [46] radial_sp) Tabs radial_L3_A (stateOf (radial_L3_gs ka ca kb cb (.next q ds))) (stateOf (radial_L3_gs ka ca kb cb (.out j es))) (radial_L3_ax (.out j es)) ∧ (nxtOf (radial_L3_gs ka ca kb cb (.out j es)), lowGS (radial_L3_gs ka ca kb cb (.out j es))) = (radial_L3_A.nx, radial_L3_A.low) :=
  runs_of' (good true _ _) radial_L3_ok (ax := radial_L3_ax) (fun _ _ => rfl) (fun _ _ => axOf_end _) (radial_L3_S_ok ka ca kb cb) h
theorem radial_L3_in0 (ka : Nat) (ca : List D) (kb : Nat) (cb : List D)  {es : List D} (h : runR (radial_L3_S ka ca kb cb) (.next 3 [iD ((0 : Int)), .one (.tuple #[]), .one (.tuple #[])]) = some (.out 0 es)) : LoopC (loopAt Try.prog 46 0) (radial_L3_E ka ca kb cb) 5 noFrame radial_x3_0 es :=
  have r := radial_L3_go ka ca kb cb h
  loopin_as rfl (loop_in (l := radial_L3_A) (E := (radial_L3_E ka ca kb cb)) (S := stateOf (radial_L3_gs ka ca kb cb (.next 3 [iD ((0 : Int)), .one (.tuple #[]), .one (.tuple #[])]))) (ns := nsOf (radial_L3_gs ka ca kb cb (.next 3 [iD ((0 : Int)), .one (.tuple #[]), .one (.tuple #[])]))) radial_L3_ok r.1 r.2 (by kernel_rfl) (by kernel_rfl) (by kernel_rfl) (by kernel_rfl))
theorem radial_L3_in1 (ka : Nat) (ca : List D) (kb : Nat) (cb : List D)  {es : List D} (h : runR (radial_L3_S ka ca kb cb) (.next 3 [iD ((0 : Int)), .one (.tuple #[]), .one (.tuple #[])]) = some (.out 1 es)) : LoopC (loopAt Try.prog 46 0) (radial_L3_E ka ca kb cb) 5 noFrame radial_x3_1 es :=
  have r := radial_L3_go ka ca kb cb h
  loopin_as rfl (loop_in (l := radial_L3_A) (E := (radial_L3_E ka ca kb cb)) (S := stateOf (radial_L3_gs ka ca kb cb (.next 3 [iD ((0 : Int)), .one (.tuple #[]), .one (.tuple #[])]))) (ns := nsOf (radial_L3_gs ka ca kb cb (.next 3 [iD ((0 : Int)), .one (.tuple #[]), .one (.tuple #[])]))) radial_L3_ok r.1 r.2 (by kernel_rfl) (by kernel_rfl) (by kernel_rfl) (by kernel_rfl))
theorem radial_L3_in2 (ka : Nat) (ca : List D) (kb : Nat) (cb : List D)  {es : List D} (h : runR (radial_L3_S ka ca kb cb) (.next 3 [iD ((0 : Int)), .one (.tuple #[]), .one (.tuple #[])]) = some (.out 2 es)) : LoopC (loopAt Try.prog 46 0) (radial_L3_E ka ca kb cb) 5 noFrame radial_x3_2 es :=
  have r := radial_L3_go ka ca kb cb h
  loopin_as rfl (loop_in (l := radial_L3_A) (E := (radial_L3_E ka ca kb cb)) (S := stateOf (radial_L3_gs ka ca kb cb (.next 3 [iD ((0 : Int)), .one (.tuple #[]), .one (.tuple #[])]))) (ns := nsOf (radial_L3_gs ka ca kb cb (.next 3 [iD ((0 : Int)), .one (.tuple #[]), .one (.tuple #[])]))) radial_L3_ok r.1 r.2 (by kernel_rfl) (by kernel_rfl) (by kernel_rfl) (by kernel_rfl))
theorem radial_L3_in3 (ka : Nat) (ca : List D) (kb : Nat) (cb : List D)  {es : List D} (h : runR (radial_L3_S ka ca kb cb) (.next 3 [iD ((0 : Int)), .one (.tuple #[]), .one (.tuple #[])]) = some (.out 3 es)) : LoopC (loopAt Try.prog 46 0) (radial_L3_E ka ca kb cb) 5 noFrame radial_x3_3 es :=
  have r := radial_L3_go ka ca kb cb h
  loopin_as rfl (loop_in (l := radial_L3_A) (E := (radial_L3_E ka ca kb cb)) (S := stateOf (radial_L3_gs ka ca kb cb (.next 3 [iD ((0 : Int)), .one (.tuple #[]), .one (.tuple #[])]))) (ns := nsOf (radial_L3_gs ka ca kb cb (.next 3 [iD ((0 : Int)), .one (.tuple #[]), .one (.tuple #[])]))) radial_L3_ok r.1 r.2 (by kernel_rfl) (by kernel_rfl) (by kernel_rfl) (by kernel_rfl))
def radial_M (ka : Nat) (ca : List D) (kb : Nat) (cb : List D) : Option D := bindL (runR (radial_L3_S ka ca kb cb) (.next 3 [iD ((0 : Int)), .one (.tuple #[]), .one (.tuple #[])])) fun j ds => (if j = 0 then pullD (α := Nat × (List D) × Nat × (List D)) (some (.tup ds)) (fun d => ((D.ln (D.at d 0)), (D.lc (D.at d 0)), (D.ln (D.at d 1)), (D.lc (D.at d 1)))) (fun (k0, c1, k2, c3) => .tup [.list k0 c1, .list k2 c3]) fun (k0, c1, k2, c3) => (guardP ((0 + k0) * 1 ≤ c1.length ∧ 0 < 1) (guardP ((0 + k2) * 1 ≤ c3.length ∧ 0 < 1) (some (.agg [.list k0 c1, .list k2 c3])))) else if j = 1 then pullD (α := Nat × (List D)) (some (.tup ds)) (fun d => ((D.ln (D.at d 1)), (D.lc (D.at d 1)))) (fun (k4, c5) => .tup [.one (.tuple #[]), .list k4 c5]) fun (k4, c5) => (guardP ((0 + k4) * 1 ≤ c5.length ∧ 0 < 1) (some (.agg [.list 0 [], .list k4 c5]))) else if j = 2 then pullD (α := Nat × (List D)) (some (.tup ds)) (fun d => ((D.ln (D.at d 0)), (D.lc (D.at d 0)))) (fun (k6, c7) => .tup [.list k6 c7, .one (.tuple #[])]) fun (k6, c7) => (guardP ((0 + k6) * 1 ≤ c7.length ∧ 0 < 1) (some (.agg [.list k6 c7, .list 0 []]))) else if j = 3 then pullD (some (.tup ds)) (fun _ => ()) (fun _ => .tup [.one (.tuple #[]), .one (.tuple #[])]) fun _ => (some (.agg [.list 0 [], .list 0 []])) else none)
theorem radial_M_ok (ka : Nat) (ca : List D) (kb : Nat) (cb : List D) {r : D} (h : radial_M ka ca kb cb = some r) : Con 46 [.agg [.list ka ca, .list kb cb]] r := by
  unfold radial_M at h
  obtain ⟨j, ds, e1_, h2_⟩ := bindL_elim h
  by_cases j3_ : j = 0
  · have h6_ := (if_pos j3_).symm.trans h2_
    clear h2_
    subst j3_
    obtain ⟨⟨k0, c1, k2, c3⟩, e4_, h7_⟩ := pullD_elim h6_
    clear h6_
    obtain rfl := tup_inj e4_
    have k5_ := radial_L3_in0 ka ca kb cb e1_
    obtain ⟨f8_, h9_⟩ := guardP_elim h7_
    obtain ⟨f10_, h11_⟩ := guardP_elim h9_
    obtain rfl := Option.some.inj h11_
    exact con_pc (op := true) (I := [46]) (sp := radial_sp) 3000 [] [.tup [iD (Int.ofNat 0), .list k0 c1, .list k2 c3]] [c_f f8_, c_f f10_] [k_l k5_ [] [.tup [iD (Int.ofNat 0), .list k0 c1, .list k2 c3]] []] (by kernel_rfl)
  have h12_ := (if_neg j3_).symm.trans h2_
  clear h2_
  by_cases j13_ : j = 1
  · have h16_ := (if_pos j13_).symm.trans h12_
    clear h12_
    subst j13_
    obtain ⟨⟨k4, c5⟩, e14_, h17_⟩ := pullD_elim h16_
    clear h16_
    obtain rfl := tup_inj e14_
    have k15_ := radial_L3_in1 ka ca kb cb e1_
    obtain ⟨f18_, h19_⟩ := guardP_elim h17_
    obtain rfl := Option.some.inj h19_
    exact con_pc (op := true) (I := [46]) (sp := radial_sp) 3000 [] [.tup [iD (Int.ofNat 1), .one (.tuple #[]), .list k4 c5]] [c_f f18_] [k_l k15_ [] [.tup [iD (Int.ofNat 1), .one (.tuple #[]), .list k4 c5]] []] (by kernel_rfl)
  have h20_ := (if_neg j13_).symm.trans h12_
  clear h12_
  by_cases j21_ : j = 2
  · have h24_ := (if_pos j21_).symm.trans h20_
    clear h20_
    subst j21_
    obtain ⟨⟨k6, c7⟩, e22_, h25_⟩ := pullD_elim h24_
    clear h24_
    obtain rfl := tup_inj e22_
    have k23_ := radial_L3_in2 ka ca kb cb e1_
    obtain ⟨f26_, h27_⟩ := guardP_elim h25_
    obtain rfl := Option.some.inj h27_
    exact con_pc (op := true) (I := [46]) (sp := radial_sp) 3000 [] [.tup [iD (Int.ofNat 2), .list k6 c7, .one (.tuple #[])]] [c_f f26_] [k_l k23_ [] [.tup [iD (Int.ofNat 2), .list k6 c7, .one (.tuple #[])]] []] (by kernel_rfl)
  have h28_ := (if_neg j21_).symm.trans h20_
  clear h20_
  by_cases j29_ : j = 3
  · have h32_ := (if_pos j29_).symm.trans h28_
    clear h28_
    subst j29_
    obtain ⟨⟨⟩, e30_, h33_⟩ := pullD_elim h32_
    clear h32_
    obtain rfl := tup_inj e30_
    have k31_ := radial_L3_in3 ka ca kb cb e1_
    obtain rfl := Option.some.inj h33_
    exact con_pc (op := true) (I := [46]) (sp := radial_sp) 3000 [] [.tup [iD (Int.ofNat 3), .one (.tuple #[]), .one (.tuple #[])]] [] [k_l k31_ [] [.tup [iD (Int.ofNat 3), .one (.tuple #[]), .one (.tuple #[])]] []] (by kernel_rfl)
  have h34_ := (if_neg j29_).symm.trans h28_
  clear h28_
  cases h34_
def m_46 (ds : List D) : Option D := pullD (α := Nat × (List D) × Nat × (List D)) (some (.tup ds)) (fun d => ((D.ln (D.at (D.at d 0) 0)), (D.lc (D.at (D.at d 0) 0)), (D.ln (D.at (D.at d 0) 1)), (D.lc (D.at (D.at d 0) 1)))) (fun (ka, ca, kb, cb) => .tup [.agg [.list ka ca, .list kb cb]]) fun (ka, ca, kb, cb) => radial_M ka ca kb cb
theorem m_46_ok {ds : List D} {r : D} (h : m_46 ds = some r) : Con 46 ds r := by
  unfold m_46 at h
  obtain ⟨⟨ka, ca, kb, cb⟩, e0, h0⟩ := pullD_elim h
  obtain rfl := tup_inj e0
  exact radial_M_ok ka ca kb cb h0
theorem m_46_eq (ka : Nat) (ca : List D) (kb : Nat) (cb : List D) : m_46 [.agg [.list ka ca, .list kb cb]] = radial_M ka ca kb cb := pullD_some (ka, ca, kb, cb) rfl rfl
def gSize_x3_0 : LExit := ⟨some 0, [.val 3], (5 :: (List.range' 8 10))⟩
def gSize_sp : List LSpec := [⟨69, 3, [gSize_x3_0]⟩]
def gSize_L3_E (k : Nat) (c : List D)  : List AV × AHeap := ([.dsl 0, .pure (.tuple #[]), .pure (.int .i64 (0 : Int)), .pure (.int .i64 (0 : Int)), .pure (.tuple #[]), .pure (.tuple #[]), .dsl 0, .pure (.int .i64 (k : Int)), .pure (.int .i64 (0 : Int)), .pure (.tuple #[]), .pure (.tuple #[]), .pure (.tuple #[]), .pure (.tuple #[]), .pure (.tuple #[]), .pure (.tuple #[]), .pure (.tuple #[]), .pure (.tuple #[]), .pure (.tuple #[]), .pure (.tuple #[])], [(0, { cells := [], opn := none, kind := .deep k c })])
def gSize_L3_A : LoopAt := ⟨69, loopAt Try.prog 69 0, 1, 13, 1, noFrame⟩
theorem gSize_L3_ok : (gSize_L3_A).OK := ⟨by show 1 ≤ 13; decide, by show 1 ≤ 1; decide, by kernel_rfl, rfl⟩
def gSize_L3_gs (k : Nat) (c : List D)  : Go.Ev.Rd → Option GS
  | .next 0 ds => ghost [.val 3, .val 8] (5 :: (List.range' 9 9)) (gSize_L3_E k c).1 (gSize_L3_E k c).2 1 ds
  | .out 0 ds => ghost gSize_x3_0.live gSize_x3_0.junk (gSize_L3_E k c).1 (gSize_L3_E k c).2 1 ds
  | _ => none
def gSize_L3_ex : Nat → Option Nat
  | 0 => gSize_x3_0.ex
  | _ => none
def gSize_L3_ax : Go.Ev.Rd → AX
  | .next _ _ => .normal
  | .out j _ => axOf (gSize_L3_ex j)
def gSize_L3_S0 (k : Nat) (c : List D)  (ds : List D) : Option Go.Ev.Rd := pullD (α := Int × Int) (some (.tup ds)) (fun d => ((D.vi (D.at d 0)), (D.vi (D.at d 1)))) (fun (s3, s8) => .tup [iD s3, iD s8]) fun (s3, s8) => ((if s8 < (k : Int) then guardP ((0 : Int) ≤ s8 ∧ s8.toNat < k) (pullD (α := Int) (readD c (s8.toNat * 1) 1 false) (fun d => ((D.vi d))) (fun v0 => iD v0) fun v0 => (some (.next 0 [iD (if IntKind.i64.wrap ((0 : Int) - v0) > if v0 > s3 then v0 else s3 then IntKind.i64.wrap ((0 : Int) - v0) else if v0 > s3 then v0 else s3), iD (IntKind.i64.wrap (s8 + (1 : Int)))]))) else some (.out 0 [iD s3])))
def gSize_L3_S (k : Nat) (c : List D)  : Go.Ev.Rd → Option Go.Ev.Rd
  | .next 0 ds => gSize_L3_S0 k c ds
  | _ => none
theorem gSize_L3_S_ok (k : Nat) (c : List D)  : ∀ s_ t_, gSize_L3_S k c s_ = some t_ → Step (ctx [69] gSize_sp) Tabs gSize_L3_A (stateOf (gSize_L3_gs k c s_)) (stateOf (gSize_L3_gs k c t_)) (gSize_L3_ax t_) ∧ EndOK gSize_L3_A.nx gSize_L3_A.low (gSize_L3_gs k c) t_
  | .next 0 ds, t_, h => by
    have h_ : gSize_L3_S0 k c ds = some t_ := h
    clear h
    unfold gSize_L3_S0 at h_
    obtain ⟨⟨s3, s8⟩, e0, h0⟩ := pullD_elim h_
    clear h_
    obtain rfl := tup_inj e0
    by_cases b1_ : s8 < (k : Int)
    · have h2_ := (if_pos b1_).symm.trans h0
      obtain ⟨f3_, h4_⟩ := guardP_elim h2_
      obtain ⟨v0, f5_, h6_⟩ := pullD_elim h4_
      replace f5_ := readD_elim f5_
      obtain rfl := Option.some.inj h6_
      exact ⟨step_pc 3000 (bT 1 []) [iD v0] [c_d b1_, c_f f3_, c_f f5_] [] _ rfl (by kernel_rfl) (by kernel_rfl) (by kernel_rfl) (by kernel_rfl) (by kernel_rfl) (by kernel_rfl), trivial⟩
    have h2_ := (if_neg b1_).symm.trans h0
    obtain rfl := Option.some.inj h2_
    exact ⟨step_pc 3000 (bF 1 []) [] [c_n b1_] [] _ rfl (by kernel_rfl) (by kernel_rfl) (by kernel_rfl) (by kernel_rfl) (by kernel_rfl) (by kernel_rfl), by kernel_rfl, by kernel_rfl⟩
  | .next (_ + 1) _, _, h => by cases h
  | .out _ _, _, h => by cases h
theorem gSize_L3_go (k : Nat) (c : List D)  {q : Nat} {ds : List D} {j : Nat} {es : List D} (h : runR (gSize_L3_S k c) (.next q ds) = some (.out j es)) : Runs (ctx [69] gSize_sp) Tabs gSize_L3_A (stateOf (gSize_L3_gs k c (.next q ds))) (stateOf (gSize_L3_gs k c (.out j es))) (gSize_L3_ax (.out j es)) ∧ (nxtOf (gSize_L3_gs k c (.out j es)), lowGS (gSize_L3_gs k c (.out j es))) = (gSize_L3_A.nx, gSize_L3_A.low) :=
  runs_of' (good true _ _) gSize_L3_ok (ax := gSize_L3_ax) (fun _ _ => rfl) (fun _ _ => axOf_end _) (gSize_L3_S_ok k c) h
theorem gSize_L3_in0 (k : Nat) (c : List D)  {es : List D} (h : runR (gSize_L3_S k c) (.next 0 [iD ((0 : Int)), iD ((0 : Int))]) = some (.out 0 es)) : LoopC (loopAt Try.prog 69 0) (gSize_L3_E k c) 1 noFrame gSize_x3_0 es :=
  have r := gSize_L3_go k c h
  loopin_as rfl (loop_in (l := gSize_L3_A) (E := (gSize_L3_E k c)) (S := stateOf (gSize_L3_gs k c (.next 0 [iD ((0 : Int)), iD ((0 : Int))]))) (ns := nsOf (gSize_L3_gs k c (.next 0 [iD ((0 : Int)), iD ((0 : Int))]))) gSize_L3_ok r.1 r.2 (by kernel_rfl) (by kernel_rfl) (by kernel_rfl) (by kernel_rfl))
def gSize_M (k : Nat) (c : List D) : Option D := bindL (runR (gSize_L3_S k c) (.next 0 [iD ((0 : Int)), iD ((0 : Int))])) fun j ds => (if j = 0 then pullD (α := Int) (some (.tup ds)) (fun d => ((D.vi (D.at d 0)))) (fun l0 => .tup [iD l0]) fun l0 => (some (iD l0)) else none)
theorem gSize_M_ok (k : Nat) (c : List D) {r : D} (h : gSize_M k c = some r) : Con 69 [.list k c] r := by
  unfold gSize_M at h
  obtain ⟨j, ds, e1_, h2_⟩ := bindL_elim h
  by_cases j3_ : j = 0
  · have h6_ := (if_pos j3_).symm.trans h2_
    clear h2_
    subst j3_
    obtain ⟨l0, e4_, h7_⟩ := pullD_elim h6_
    clear h6_
    obtain rfl := tup_inj e4_
    have k5_ := gSize_L3_in0 k c e1_
    obtain rfl := Option.some.inj h7_
    exact con_pc (op := true) (I := [69]) (sp := gSize_sp) 3000 [] [.tup [iD (Int.ofNat 0), iD l0]] [] [k_l k5_ [] [.tup [iD (Int.ofNat 0), iD l0]] []] (by kernel_rfl)
  have h8_ := (if_neg j3_).symm.trans h2_
  clear h2_
  cases h8_
def m_69 (ds : List D) : Option D := pullD (α := Nat × (List D)) (some (.tup ds)) (fun d => ((D.ln (D.at d 0)), (D.lc (D.at d 0)))) (fun (k, c) => .tup [.list k c]) fun (k, c) => gSize_M k c
theorem m_69_ok {ds : List D} {r : D} (h : m_69 ds = some r) : Con 69 ds r := by
  unfold m_69 at h
  obtain ⟨⟨k, c⟩, e0, h0⟩ := pullD_elim h
  obtain rfl := tup_inj e0
  exact gSize_M_ok k c h0
theorem m_69_eq (k : Nat) (c : List D) : m_69 [.list k c] = gSize_M k c := pullD_some (k, c) rfl rfl
def size_sp : List LSpec := []
def size_M (n : Int) : Option D := some (iD (if IntKind.i64.wrap ((0 : Int) - n) > n then IntKind.i64.wrap ((0 : Int) - n) else n))
theorem size_M_ok (n : Int) {r : D} (h : size_M n = some r) : Con 55 [iD n] r := by
  unfold size_M at h
  obtain rfl := Option.some.inj h
  exact con_pc (op := true) (I := [55]) (sp := size_sp) 3000 [] [] [] [] (by kernel_rfl)
def m_55 (ds : List D) : Option D := pullD (α := Int) (some (.tup ds)) (fun d => ((D.vi (D.at d 0)))) (fun n => .tup [iD n]) fun n => size_M n
theorem m_55_ok {ds : List D} {r : D} (h : m_55 ds = some r) : Con 55 ds r := by
  unfold m_55 at h
  obtain ⟨n, e0, h0⟩ := pullD_elim h
  obtain rfl := tup_inj e0
  exact size_M_ok n h0
theorem m_55_eq (n : Int) : m_55 [iD n] = size_M n := pullD_some n rfl rfl
def within_sp : List LSpec := []
def within_M (n lo hi : Int) : Option D := (if lo ≤ n then some (.one (.bool (decide (n ≤ hi)))) else some (.one (.bool false)))
theorem within_M_ok (n lo hi : Int) {r : D} (h : within_M n lo hi = some r) : Con 25 [iD n, iD lo, iD hi] r := by
  unfold within_M at h
  by_cases b1_ : lo ≤ n
  · have h2_ := (if_pos b1_).symm.trans h
    obtain rfl := Option.some.inj h2_
    exact con_pc (op := true) (I := [25]) (sp := within_sp) 3000 (bT 4 []) [] [c_d b1_, c_d b1_, c_d b1_, c_d b1_] [] (by kernel_rfl)
  have h2_ := (if_neg b1_).symm.trans h
  obtain rfl := Option.some.inj h2_
  exact con_pc (op := true) (I := [25]) (sp := within_sp) 3000 (bF 4 []) [] [c_n b1_, c_n b1_, c_n b1_, c_n b1_] [] (by kernel_rfl)
def m_25 (ds : List D) : Option D := pullD (α := Int × Int × Int) (some (.tup ds)) (fun d => ((D.vi (D.at d 0)), (D.vi (D.at d 1)), (D.vi (D.at d 2)))) (fun (n, lo, hi) => .tup [iD n, iD lo, iD hi]) fun (n, lo, hi) => within_M n lo hi
theorem m_25_ok {ds : List D} {r : D} (h : m_25 ds = some r) : Con 25 ds r := by
  unfold m_25 at h
  obtain ⟨⟨n, lo, hi⟩, e0, h0⟩ := pullD_elim h
  obtain rfl := tup_inj e0
  exact within_M_ok n lo hi h0
theorem m_25_eq (n lo hi : Int) : m_25 [iD n, iD lo, iD hi] = within_M n lo hi := pullD_some (n, lo, hi) rfl rfl
def residOf_sp : List LSpec := []
def residOf_M (ka : Nat) (ca : List D) (kb : Nat) (cb : List D) : Option D := pullD (α := Nat × (List D) × Nat × (List D) × Int) (m_40 [.agg [.list ka ca, .list kb cb]]) (fun d => ((D.ln (D.at (D.at d 0) 0)), (D.lc (D.at (D.at d 0) 0)), (D.ln (D.at (D.at d 0) 1)), (D.lc (D.at (D.at d 0) 1)), (D.vi (D.at d 1)))) (fun (k0, c1, k2, c3, r4) => .tup [.agg [.list k0 c1, .list k2 c3], iD r4]) fun (k0, c1, k2, c3, r4) => ((if r4 ≠ (0 : Int) then some (.tup [.list 0 [], iD r4]) else pullD (α := Nat × (List D)) (m_41 [.agg [.list k0 c1, .list k2 c3]]) (fun d => ((D.ln d), (D.lc d))) (fun (k5, c6) => .list k5 c6) fun (k5, c6) => (some (.tup [.list k5 c6, iD (0 : Int)]))))
theorem residOf_M_ok (ka : Nat) (ca : List D) (kb : Nat) (cb : List D) {r : D} (h : residOf_M ka ca kb cb = some r) : Con 10 [.agg [.list ka ca, .list kb cb]] r := by
  unfold residOf_M at h
  obtain ⟨⟨k0, c1, k2, c3, r4⟩, f1_, h2_⟩ := pullD_elim h
  replace f1_ := m_40_ok f1_
  by_cases b3_ : r4 ≠ (0 : Int)
  · have h4_ := (if_pos b3_).symm.trans h2_
    obtain rfl := Option.some.inj h4_
    exact con_pc (op := true) (I := [10]) (sp := residOf_sp) 3000 (bT 1 []) [.tup [.agg [.list k0 c1, .list k2 c3], iD r4]] [c_b b3_] [k_c f1_] (by kernel_rfl)
  have h4_ := (if_neg b3_).symm.trans h2_
  have b5_ : r4 = (0 : Int) := by first | exact b3_ | simpa using b3_
  obtain ⟨⟨k5, c6⟩, f6_, h7_⟩ := pullD_elim h4_
  replace f6_ := m_41_ok f6_
  obtain rfl := Option.some.inj h7_
  exact con_pc (op := true) (I := [10]) (sp := residOf_sp) 3000 (bF 1 []) [.tup [.agg [.list k0 c1, .list k2 c3], iD r4], .list k5 c6] [c_bn b5_] [k_c f1_, k_c f6_] (by kernel_rfl)
def m_10 (ds : List D) : Option D := pullD (α := Nat × (List D) × Nat × (List D)) (some (.tup ds)) (fun d => ((D.ln (D.at (D.at d 0) 0)), (D.lc (D.at (D.at d 0) 0)), (D.ln (D.at (D.at d 0) 1)), (D.lc (D.at (D.at d 0) 1)))) (fun (ka, ca, kb, cb) => .tup [.agg [.list ka ca, .list kb cb]]) fun (ka, ca, kb, cb) => residOf_M ka ca kb cb
theorem m_10_ok {ds : List D} {r : D} (h : m_10 ds = some r) : Con 10 ds r := by
  unfold m_10 at h
  obtain ⟨⟨ka, ca, kb, cb⟩, e0, h0⟩ := pullD_elim h
  obtain rfl := tup_inj e0
  exact residOf_M_ok ka ca kb cb h0
theorem m_10_eq (ka : Nat) (ca : List D) (kb : Nat) (cb : List D) : m_10 [.agg [.list ka ca, .list kb cb]] = residOf_M ka ca kb cb := pullD_some (ka, ca, kb, cb) rfl rfl
def radialOf_sp : List LSpec := []
def radialOf_M (ka : Nat) (ca : List D) (kb : Nat) (cb : List D) : Option D := pullD (α := Nat × (List D) × Nat × (List D) × Int) (m_40 [.agg [.list ka ca, .list kb cb]]) (fun d => ((D.ln (D.at (D.at d 0) 0)), (D.lc (D.at (D.at d 0) 0)), (D.ln (D.at (D.at d 0) 1)), (D.lc (D.at (D.at d 0) 1)), (D.vi (D.at d 1)))) (fun (k0, c1, k2, c3, r4) => .tup [.agg [.list k0 c1, .list k2 c3], iD r4]) fun (k0, c1, k2, c3, r4) => ((if r4 ≠ (0 : Int) then some (.tup [.agg [.list 0 [], .list 0 []], iD r4]) else pullD (α := Nat × (List D) × Nat × (List D)) (m_46 [.agg [.list k0 c1, .list k2 c3]]) (fun d => ((D.ln (D.at d 0)), (D.lc (D.at d 0)), (D.ln (D.at d 1)), (D.lc (D.at d 1)))) (fun (k5, c6, k7, c8) => .agg [.list k5 c6, .list k7 c8]) fun (k5, c6, k7, c8) => (some (.tup [.agg [.list k5 c6, .list k7 c8], iD (0 : Int)]))))
theorem radialOf_M_ok (ka : Nat) (ca : List D) (kb : Nat) (cb : List D) {r : D} (h : radialOf_M ka ca kb cb = some r) : Con 14 [.agg [.list ka ca, .list kb cb]] r := by
  unfold radialOf_M at h
  obtain ⟨⟨k0, c1, k2, c3, r4⟩, f1_, h2_⟩ := pullD_elim h
  replace f1_ := m_40_ok f1_
  by_cases b3_ : r4 ≠ (0 : Int)
  · have h4_ := (if_pos b3_).symm.trans h2_
    obtain rfl := Option.some.inj h4_
    exact con_pc (op := true) (I := [14, 43]) (sp := radialOf_sp) 3000 (bT 1 []) [.tup [.agg [.list k0 c1, .list k2 c3], iD r4]] [c_b b3_] [k_c f1_] (by kernel_rfl)
  have h4_ := (if_neg b3_).symm.trans h2_
  have b5_ : r4 = (0 : Int) := by first | exact b3_ | simpa using b3_
  obtain ⟨⟨k5, c6, k7, c8⟩, f6_, h7_⟩ := pullD_elim h4_
  replace f6_ := m_46_ok f6_
  obtain rfl := Option.some.inj h7_
  exact con_pc (op := true) (I := [14, 43]) (sp := radialOf_sp) 3000 (bF 1 []) [.tup [.agg [.list k0 c1, .list k2 c3], iD r4], .agg [.list k5 c6, .list k7 c8]] [c_bn b5_] [k_c f1_, k_c f6_] (by kernel_rfl)
def m_14 (ds : List D) : Option D := pullD (α := Nat × (List D) × Nat × (List D)) (some (.tup ds)) (fun d => ((D.ln (D.at (D.at d 0) 0)), (D.lc (D.at (D.at d 0) 0)), (D.ln (D.at (D.at d 0) 1)), (D.lc (D.at (D.at d 0) 1)))) (fun (ka, ca, kb, cb) => .tup [.agg [.list ka ca, .list kb cb]]) fun (ka, ca, kb, cb) => radialOf_M ka ca kb cb
theorem m_14_ok {ds : List D} {r : D} (h : m_14 ds = some r) : Con 14 ds r := by
  unfold m_14 at h
  obtain ⟨⟨ka, ca, kb, cb⟩, e0, h0⟩ := pullD_elim h
  obtain rfl := tup_inj e0
  exact radialOf_M_ok ka ca kb cb h0
theorem m_14_eq (ka : Nat) (ca : List D) (kb : Nat) (cb : List D) : m_14 [.agg [.list ka ca, .list kb cb]] = radialOf_M ka ca kb cb := pullD_some (ka, ca, kb, cb) rfl rfl
def winErr_x7_0 : LExit := ⟨some 0, [.val 3], (2 :: (4 :: (List.range' 23 21)))⟩
def winErr_x7_1 : LExit := ⟨none, [.val 2], (3 :: (4 :: (List.range' 23 21)))⟩
def winErr_x13_0 : LExit := ⟨some 2, [.val 3], (2 :: (5 :: (List.range' 44 21)))⟩
def winErr_x13_1 : LExit := ⟨none, [.val 2], (3 :: (5 :: (List.range' 44 21)))⟩
def winErr_sp : List LSpec := [⟨16, 7, [winErr_x7_0, winErr_x7_1]⟩, ⟨16, 13, [winErr_x13_0, winErr_x13_1]⟩]
def winErr_L13_E (ka : Nat) (ca : List D) (kb : Nat) (cb : List D) (x0 : Int) : List AV × AHeap := ([.agg [.dsl 0, .dsl 1], .ptr 2 0, .any 3, .pure (.int .i64 x0), .any 4, .pure (.int .i64 (0 : Int)), .ptr 2 0, .dsl 0, .pure (.int .i64 (ka : Int)), .pure (.bool ((ka : Int) == (0 : Int))), .pure (.bool ((ka : Int) == (0 : Int))), .ptr 2 1, .dsl 1, .pure (.int .i64 (kb : Int)), .ptr 2 0, .dsl 0, .pure (.int .i64 (ka : Int)), .pure (.bool ((kb : Int) != (ka : Int))), .pure (.bool ((kb : Int) != (ka : Int))), .ptr 2 0, .dsl 0, .pure (.int .i64 (ka : Int)), .pure (.bool (decide ((ka : Int) > (15 : Int)))), .any 5, .any 6, .any 7, .any 8, .any 9, .any 10, .any 11, .any 12, .any 13, .any 14, .any 15, .any 16, .any 17, .any 18, .any 19, .any 20, .any 21, .any 22, .any 23, .any 24, .any 25, .pure (.tuple #[]), .pure (.tuple #[]), .pure (.tuple #[]), .pure (.tuple #[]), .pure (.tuple #[]), .pure (.tuple #[]), .pure (.tuple #[]), .pure (.tuple #[]), .pure (.tuple #[]), .pure (.tuple #[]), .pure (.tuple #[]), .pure (.tuple #[]), .pure (.tuple #[]), .pure (.tuple #[]), .pure (.tuple #[]), .pure (.tuple #[]), .pure (.tuple #[]), .pure (.tuple #[]), .pure (.tuple #[]), .pure (.tuple #[]), .pure (.tuple #[]), .pure (.tuple #[]), .pure (.tuple #[])], [(2, { cells := [.dsl 0, .dsl 1], opn := none, kind := .cells }), (1, { cells := [], opn := none, kind := .deep kb cb }), (0, { cells := [], opn := none, kind := .deep ka ca })])
def winErr_L13_A : LoopAt := ⟨16, loopAt Try.prog 16 1, 27, 51, 27, noFrame⟩
theorem winErr_L13_ok : (winErr_L13_A).OK := ⟨by show 27 ≤ 51; decide, by show 27 ≤ 27; decide, by kernel_rfl, rfl⟩
def winErr_L13_gs (ka : Nat) (ca : List D) (kb : Nat) (cb : List D) (x0 : Int) : Go.Ev.Rd → Option GS
  | .next 0 ds => ghost [.val 3, .val 5] (2 :: (List.range' 44 21)) (winErr_L13_E ka ca kb cb x0).1 (winErr_L13_E ka ca kb cb x0).2 27 ds
  | .out 0 ds => ghost winErr_x13_0.live winErr_x13_0.junk (winErr_L13_E ka ca kb cb x0).1 (winErr_L13_E ka ca kb cb x0).2 27 ds
  | .out 1 ds => ghost winErr_x13_1.live winErr_x13_1.junk (winErr_L13_E ka ca kb cb x0).1 (winErr_L13_E ka ca kb cb x0).2 27 ds
  | _ => none
def winErr_L13_ex : Nat → Option Nat
  | 0 => winErr_x13_0.ex
  | 1 => winErr_x13_1.ex
  | _ => none
def winErr_L13_ax : Go.Ev.Rd → AX
  | .next _ _ => .normal
  | .out j _ => axOf (winErr_L13_ex j)
def winErr_L13_S0 (ka : Nat) (ca : List D) (kb : Nat) (cb : List D) (x0 : Int) (ds : List D) : Option Go.Ev.Rd := pullD (α := Int × Int) (some (.tup ds)) (fun d => ((D.vi (D.at d 0)), (D.vi (D.at d 1)))) (fun (s3, s5) => .tup [iD s3, iD s5]) fun (s3, s5) => ((if s5 < (kb : Int) then guardP ((0 : Int) ≤ s5 ∧ s5.toNat < kb) (pullD (α := Int) (readD cb (s5.toNat * 1) 1 false) (fun d => ((D.vi d))) (fun v0 => iD v0) fun v0 => (pullD (α := Bool) (m_25 [iD v0, iD (-100 : Int), iD (100 : Int)]) (fun d => ((D.vb d))) (fun r1 => .one (.bool r1)) fun r1 => ((if r1 = false then some (.out 1 [iD (2 : Int)]) else pullD (α := Int) (readD cb (s5.toNat * 1) 1 false) (fun d => ((D.vi d))) (fun v2 => iD v2) fun v2 => (some (.next 0 [iD (IntKind.i64.wrap (s3 + v2)), iD (IntKind.i64.wrap (s5 + (1 : Int)))])))))) else some (.out 0 [iD s3])))
def winErr_L13_S (ka : Nat) (ca : List D) (kb : Nat) (cb : List D) (x0 : Int) : Go.Ev.Rd → Option Go.Ev.Rd
  | .next 0 ds => winErr_L13_S0 ka ca kb cb x0 ds
  | _ => none
theorem winErr_L13_S_ok (ka : Nat) (ca : List D) (kb : Nat) (cb : List D) (x0 : Int) : ∀ s_ t_, winErr_L13_S ka ca kb cb x0 s_ = some t_ → Step (ctx [16] winErr_sp) Tabs winErr_L13_A (stateOf (winErr_L13_gs ka ca kb cb x0 s_)) (stateOf (winErr_L13_gs ka ca kb cb x0 t_)) (winErr_L13_ax t_) ∧ EndOK winErr_L13_A.nx winErr_L13_A.low (winErr_L13_gs ka ca kb cb x0) t_
  | .next 0 ds, t_, h => by
    have h_ : winErr_L13_S0 ka ca kb cb x0 ds = some t_ := h
    clear h
    unfold winErr_L13_S0 at h_
    obtain ⟨⟨s3, s5⟩, e0, h0⟩ := pullD_elim h_
    clear h_
    obtain rfl := tup_inj e0
    by_cases b1_ : s5 < (kb : Int)
    · have h2_ := (if_pos b1_).symm.trans h0
      obtain ⟨f3_, h4_⟩ := guardP_elim h2_
      obtain ⟨v0, f5_, h6_⟩ := pullD_elim h4_
      replace f5_ := readD_elim f5_
      obtain ⟨r1, f7_, h8_⟩ := pullD_elim h6_
      replace f7_ := m_25_ok f7_
      by_cases b9_ : r1 = false
      · have h10_ := (if_pos b9_).symm.trans h8_
        obtain rfl := Option.some.inj h10_
        exact ⟨step_pc 3000 (bT 2 []) [iD v0, .one (.bool r1)] [c_d b1_, c_f f3_, c_f f5_, c_no b9_] [k_c f7_] _ rfl (by kernel_rfl) (by kernel_rfl) (by kernel_rfl) (by kernel_rfl) (by kernel_rfl) (by kernel_rfl), by kernel_rfl, by kernel_rfl⟩
      have h10_ := (if_neg b9_).symm.trans h8_
      have b11_ : r1 = true := by first | exact b9_ | simpa using b9_
      obtain ⟨v2, f12_, h13_⟩ := pullD_elim h10_
      replace f12_ := readD_elim f12_
      obtain rfl := Option.some.inj h13_
      exact ⟨step_pc 3000 (bT 1 (bF 1 [])) [iD v0, .one (.bool r1), iD v2] [c_d b1_, c_f f3_, c_f f5_, c_nn b11_, c_f f3_, c_f f12_] [k_c f7_] _ rfl (by kernel_rfl) (by kernel_rfl) (by kernel_rfl) (by kernel_rfl) (by kernel_rfl) (by kernel_rfl), trivial⟩
    have h2_ := (if_neg b1_).symm.trans h0
    obtain rfl := Option.some.inj h2_
    exact ⟨step_pc 3000 (bF 1 []) [] [c_n b1_] [] _ rfl (by kernel_rfl) (by kernel_rfl) (by kernel_rfl) (by kernel_rfl) (by kernel_rfl) (by kernel_rfl), by kernel_rfl, by kernel_rfl⟩
  | .next (_ + 1) _, _, h => by cases h
  | .out _ _, _, h => by cases h
theorem winErr_L13_go (ka : Nat) (ca : List D) (kb : Nat) (cb : List D) (x0 : Int) {q : Nat} {ds : List D} {j : Nat} {es : List D} (h : runR (winErr_L13_S ka ca kb cb x0) (.next q ds) = some (.out j es)) : Runs (ctx [16] winErr_sp) Tabs winErr_L13_A (stateOf (winErr_L13_gs ka ca kb cb x0 (.next q ds))) (stateOf (winErr_L13_gs ka ca kb cb x0 (.out j es))) (winErr_L13_ax (.out j es)) ∧ (nxtOf (winErr_L13_gs ka ca kb cb x0 (.out j es)), lowGS (winErr_L13_gs ka ca kb cb x0 (.out j es))) = (winErr_L13_A.nx, winErr_L13_A.low) :=
  runs_of' (good true _ _) winErr_L13_ok (ax := winErr_L13_ax) (fun _ _ => rfl) (fun _ _ => axOf_end _) (winErr_L13_S_ok ka ca kb cb x0) h
theorem winErr_L13_in0 (ka : Nat) (ca : List D) (kb : Nat) (cb : List D) (x0 : Int) {es : List D} (h : runR (winErr_L13_S ka ca kb cb x0) (.next 0 [iD x0, iD ((0 : Int))]) = some (.out 0 es)) : LoopC (loopAt Try.prog 16 1) (winErr_L13_E ka ca kb cb x0) 27 noFrame winErr_x13_0 es :=
  have r := winErr_L13_go ka ca kb cb x0 h
  loopin_as rfl (loop_in (l := winErr_L13_A) (E := (winErr_L13_E ka ca kb cb x0)) (S := stateOf (winErr_L13_gs ka ca kb cb x0 (.next 0 [iD x0, iD ((0 : Int))]))) (ns := nsOf (winErr_L13_gs ka ca kb cb x0 (.next 0 [iD x0, iD ((0 : Int))]))) winErr_L13_ok r.1 r.2 (by kernel_rfl) (by kernel_rfl) (by kernel_rfl) (by kernel_rfl))
theorem winErr_L13_in1 (ka : Nat) (ca : List D) (kb : Nat) (cb : List D) (x0 : Int) {es : List D} (h : runR (winErr_L13_S ka ca kb cb x0) (.next 0 [iD x0, iD ((0 : Int))]) = some (.out 1 es)) : LoopC (loopAt Try.prog 16 1) (winErr_L13_E ka ca kb cb x0) 27 noFrame winErr_x13_1 es :=
  have r := winErr_L13_go ka ca kb cb x0 h
  loopin_as rfl (loop_in (l := winErr_L13_A) (E := (winErr_L13_E ka ca kb cb x0)) (S := stateOf (winErr_L13_gs ka ca kb cb x0 (.next 0 [iD x0, iD ((0 : Int))]))) (ns := nsOf (winErr_L13_gs ka ca kb cb x0 (.next 0 [iD x0, iD ((0 : Int))]))) winErr_L13_ok r.1 r.2 (by kernel_rfl) (by kernel_rfl) (by kernel_rfl) (by kernel_rfl))
def winErr_L7_E (ka : Nat) (ca : List D) (kb : Nat) (cb : List D)  : List AV × AHeap := ([.agg [.dsl 0, .dsl 1], .ptr 2 0, .pure (.int .i64 (0 : Int)), .pure (.int .i64 (0 : Int)), .pure (.int .i64 (0 : Int)), .pure (.tuple #[]), .ptr 2 0, .dsl 0, .pure (.int .i64 (ka : Int)), .pure (.bool ((ka : Int) == (0 : Int))), .pure (.bool ((ka : Int) == (0 : Int))), .ptr 2 1, .dsl 1, .pure (.int .i64 (kb : Int)), .ptr 2 0, .dsl 0, .pure (.int .i64 (ka : Int)), .pure (.bool ((kb : Int) != (ka : Int))), .pure (.bool ((kb : Int) != (ka : Int))), .ptr 2 0, .dsl 0, .pure (.int .i64 (ka : Int)), .pure (.bool (decide ((ka : Int) > (15 : Int)))), .pure (.tuple #[]), .pure (.tuple #[]), .pure (.tuple #[]), .pure (.tuple #[]), .pure (.tuple #[]), .pure (.tuple #[]), .pure (.tuple #[]), .pure (.tuple #[]), .pure (.tuple #[]), .pure (.tuple #[]), .pure (.tuple #[]), .pure (.tuple #[]), .pure (.tuple #[]), .pure (.tuple #[]), .pure (.tuple #[]), .pure (.tuple #[]), .pure (.tuple #[]), .pure (.tuple #[]), .pure (.tuple #[]), .pure (.tuple #[]), .pure (.tuple #[]), .pure (.tuple #[]), .pure (.tuple #[]), .pure (.tuple #[]), .pure (.tuple #[]), .pure (.tuple #[]), .pure (.tuple #[]), .pure (.tuple #[]), .pure (.tuple #[]), .pure (.tuple #[]), .pure (.tuple #[]), .pure (.tuple #[]), .pure (.tuple #[]), .pure (.tuple #[]), .pure (.tuple #[]), .pure (.tuple #[]), .pure (.tuple #[]), .pure (.tuple #[]), .pure (.tuple #[]), .pure (.tuple #[]), .pure (.tuple #[]), .pure (.tuple #[]), .pure (.tuple #[]), .pure (.tuple #[])], [(2, { cells := [.dsl 0, .dsl 1], opn := none, kind := .cells }), (1, { cells := [], opn := none, kind := .deep kb cb }), (0, { cells := [], opn := none, kind := .deep ka ca })])
def winErr_L7_A : LoopAt := ⟨16, loopAt Try.prog 16 0, 3, 27, 3, noFrame⟩
theorem winErr_L7_ok : (winErr_L7_A).OK := ⟨by show 3 ≤ 27; decide, by show 3 ≤ 3; decide, by kernel_rfl, rfl⟩
def winErr_L7_gs (ka : Nat) (ca : List D) (kb : Nat) (cb : List D)  : Go.Ev.Rd → Option GS
  | .next 0 ds => ghost [.val 3, .val 4] (2 :: (List.range' 23 21)) (winErr_L7_E ka ca kb cb).1 (winErr_L7_E ka ca kb cb).2 3 ds
  | .out 0 ds => ghost winErr_x7_0.live winErr_x7_0.junk (winErr_L7_E ka ca kb cb).1 (winErr_L7_E ka ca kb cb).2 3 ds
  | .out 1 ds => ghost winErr_x7_1.live winErr_x7_1.junk (winErr_L7_E ka ca kb cb).1 (winErr_L7_E ka ca kb cb).2 3 ds
  | _ => none
def winErr_L7_ex : Nat → Option Nat
  | 0 => winErr_x7_0.ex
  | 1 => winErr_x7_1.ex
  | _ => none
def winErr_L7_ax : Go.Ev.Rd → AX
  | .next _ _ => .normal
  | .out j _ => axOf (winErr_L7_ex j)
def winErr_L7_S0 (ka : Nat) (ca : List D) (kb : Nat) (cb : List D)  (ds : List D) : Option Go.Ev.Rd := pullD (α := Int × Int) (some (.tup ds)) (fun d => ((D.vi (D.at d 0)), (D.vi (D.at d 1)))) (fun (s3, s4) => .tup [iD s3, iD s4]) fun (s3, s4) => ((if s4 < (ka : Int) then guardP ((0 : Int) ≤ s4 ∧ s4.toNat < ka) (pullD (α := Int) (readD ca (s4.toNat * 1) 1 false) (fun d => ((D.vi d))) (fun v0 => iD v0) fun v0 => (pullD (α := Bool) (m_25 [iD v0, iD (-100 : Int), iD (100 : Int)]) (fun d => ((D.vb d))) (fun r1 => .one (.bool r1)) fun r1 => ((if r1 = false then some (.out 1 [iD (2 : Int)]) else pullD (α := Int) (readD ca (s4.toNat * 1) 1 false) (fun d => ((D.vi d))) (fun v2 => iD v2) fun v2 => (some (.next 0 [iD (IntKind.i64.wrap (s3 + v2)), iD (IntKind.i64.wrap (s4 + (1 : Int)))])))))) else some (.out 0 [iD s3])))
def winErr_L7_S (ka : Nat) (ca : List D) (kb : Nat) (cb : List D)  : Go.Ev.Rd → Option Go.Ev.Rd
  | .next 0 ds => winErr_L7_S0 ka ca kb cb ds
  | _ => none
theorem winErr_L7_S_ok (ka : Nat) (ca : List D) (kb : Nat) (cb : List D)  : ∀ s_ t_, winErr_L7_S ka ca kb cb s_ = some t_ → Step (ctx [16] winErr_sp) Tabs winErr_L7_A (stateOf (winErr_L7_gs ka ca kb cb s_)) (stateOf (winErr_L7_gs ka ca kb cb t_)) (winErr_L7_ax t_) ∧ EndOK winErr_L7_A.nx winErr_L7_A.low (winErr_L7_gs ka ca kb cb) t_
  | .next 0 ds, t_, h => by
    have h_ : winErr_L7_S0 ka ca kb cb ds = some t_ := h
    clear h
    unfold winErr_L7_S0 at h_
    obtain ⟨⟨s3, s4⟩, e0, h0⟩ := pullD_elim h_
    clear h_
    obtain rfl := tup_inj e0
    by_cases b1_ : s4 < (ka : Int)
    · have h2_ := (if_pos b1_).symm.trans h0
      obtain ⟨f3_, h4_⟩ := guardP_elim h2_
      obtain ⟨v0, f5_, h6_⟩ := pullD_elim h4_
      replace f5_ := readD_elim f5_
      obtain ⟨r1, f7_, h8_⟩ := pullD_elim h6_
      replace f7_ := m_25_ok f7_
      by_cases b9_ : r1 = false
      · have h10_ := (if_pos b9_).symm.trans h8_
        obtain rfl := Option.some.inj h10_
        exact ⟨step_pc 3000 (bT 2 []) [iD v0, .one (.bool r1)] [c_d b1_, c_f f3_, c_f f5_, c_no b9_] [k_c f7_] _ rfl (by kernel_rfl) (by kernel_rfl) (by kernel_rfl) (by kernel_rfl) (by kernel_rfl) (by kernel_rfl), by kernel_rfl, by kernel_rfl⟩
      have h10_ := (if_neg b9_).symm.trans h8_
      have b11_ : r1 = true := by first | exact b9_ | simpa using b9_
      obtain ⟨v2, f12_, h13_⟩ := pullD_elim h10_
      replace f12_ := readD_elim f12_
      obtain rfl := Option.some.inj h13_
      exact ⟨step_pc 3000 (bT 1 (bF 1 [])) [iD v0, .one (.bool r1), iD v2] [c_d b1_, c_f f3_, c_f f5_, c_nn b11_, c_f f3_, c_f f12_] [k_c f7_] _ rfl (by kernel_rfl) (by kernel_rfl) (by kernel_rfl) (by kernel_rfl) (by kernel_rfl) (by kernel_rfl), trivial⟩
    have h2_ := (if_neg b1_).symm.trans h0
    obtain rfl := Option.some.inj h2_
    exact ⟨step_pc 3000 (bF 1 []) [] [c_n b1_] [] _ rfl (by kernel_rfl) (by kernel_rfl) (by kernel_rfl) (by kernel_rfl) (by kernel_rfl) (by kernel_rfl), by kernel_rfl, by kernel_rfl⟩
  | .next (_ + 1) _, _, h => by cases h
  | .out _ _, _, h => by cases h
theorem winErr_L7_go (ka : Nat) (ca : List D) (kb : Nat) (cb : List D)  {q : Nat} {ds : List D} {j : Nat} {es : List D} (h : runR (winErr_L7_S ka ca kb cb) (.next q ds) = some (.out j es)) : Runs (ctx [16] winErr_sp) Tabs winErr_L7_A (stateOf (winErr_L7_gs ka ca kb cb (.next q ds))) (stateOf (winErr_L7_gs ka ca kb cb (.out j es))) (winErr_L7_ax (.out j es)) ∧ (nxtOf (winErr_L7_gs ka ca kb cb (.out j es)), lowGS (winErr_L7_gs ka ca kb cb (.out j es))) = (winErr_L7_A.nx, winErr_L7_A.low) :=
  runs_of' (good true _ _) winErr_L7_ok (ax := winErr_L7_ax) (fun _ _ => rfl) (fun _ _ => axOf_end _) (winErr_L7_S_ok ka ca kb cb) h
theorem winErr_L7_in0 (ka : Nat) (ca : List D) (kb : Nat) (cb : List D)  {es : List D} (h : runR (winErr_L7_S ka ca kb cb) (.next 0 [iD ((0 : Int)), iD ((0 : Int))]) = some (.out 0 es)) : LoopC (loopAt Try.prog 16 0) (winErr_L7_E ka ca kb cb) 3 noFrame winErr_x7_0 es :=
  have r := winErr_L7_go ka ca kb cb h
  loopin_as rfl (loop_in (l := winErr_L7_A) (E := (winErr_L7_E ka ca kb cb)) (S := stateOf (winErr_L7_gs ka ca kb cb (.next 0 [iD ((0 : Int)), iD ((0 : Int))]))) (ns := nsOf (winErr_L7_gs ka ca kb cb (.next 0 [iD ((0 : Int)), iD ((0 : Int))]))) winErr_L7_ok r.1 r.2 (by kernel_rfl) (by kernel_rfl) (by kernel_rfl) (by kernel_rfl))
theorem winErr_L7_in1 (ka : Nat) (ca : List D) (kb : Nat) (cb : List D)  {es : List D} (h : runR (winErr_L7_S ka ca kb cb) (.next 0 [iD ((0 : Int)), iD ((0 : Int))]) = some (.out 1 es)) : LoopC (loopAt Try.prog 16 0) (winErr_L7_E ka ca kb cb) 3 noFrame winErr_x7_1 es :=
  have r := winErr_L7_go ka ca kb cb h
  loopin_as rfl (loop_in (l := winErr_L7_A) (E := (winErr_L7_E ka ca kb cb)) (S := stateOf (winErr_L7_gs ka ca kb cb (.next 0 [iD ((0 : Int)), iD ((0 : Int))]))) (ns := nsOf (winErr_L7_gs ka ca kb cb (.next 0 [iD ((0 : Int)), iD ((0 : Int))]))) winErr_L7_ok r.1 r.2 (by kernel_rfl) (by kernel_rfl) (by kernel_rfl) (by kernel_rfl))
def winErr_M (ka : Nat) (ca : List D) (kb : Nat) (cb : List D) : Option D := (if (ka : Int) = (0 : Int) then some (iD (10 : Int)) else (if (kb : Int) ≠ (ka : Int) then some (iD (10 : Int)) else (if (ka : Int) > (15 : Int) then some (iD (8 : Int)) else bindL (runR (winErr_L7_S ka ca kb cb) (.next 0 [iD ((0 : Int)), iD ((0 : Int))])) fun j ds => (if j = 0 then pullD (α := Int) (some (.tup ds)) (fun d => ((D.vi (D.at d 0)))) (fun l0 => .tup [iD l0]) fun l0 => (bindL (runR (winErr_L13_S ka ca kb cb l0) (.next 0 [iD l0, iD ((0 : Int))])) fun j ds => (if j = 0 then pullD (α := Int) (some (.tup ds)) (fun d => ((D.vi (D.at d 0)))) (fun l1 => .tup [iD l1]) fun l1 => ((if l1 ≠ (0 : Int) then some (iD (13 : Int)) else some (iD (0 : Int)))) else if j = 1 then pullD (α := Int) (some (.tup ds)) (fun d => ((D.vi (D.at d 0)))) (fun l2 => .tup [iD l2]) fun l2 => (some (iD l2)) else none)) else if j = 1 then pullD (α := Int) (some (.tup ds)) (fun d => ((D.vi (D.at d 0)))) (fun l3 => .tup [iD l3]) fun l3 => (some (iD l3)) else none))))
theorem winErr_M_ok (ka : Nat) (ca : List D) (kb : Nat) (cb : List D) {r : D} (h : winErr_M ka ca kb cb = some r) : Con 16 [.agg [.list ka ca, .list kb cb]] r := by
  unfold winErr_M at h
  by_cases b1_ : (ka : Int) = (0 : Int)
  · have h2_ := (if_pos b1_).symm.trans h
    obtain rfl := Option.some.inj h2_
    exact con_pc (op := true) (I := [16]) (sp := winErr_sp) 3000 (bT 9 []) [] [c_e b1_, c_e b1_, c_e b1_, c_e b1_, c_e b1_, c_e b1_, c_e b1_, c_e b1_, c_T] [] (by kernel_rfl)
  have h2_ := (if_neg b1_).symm.trans h
  have b3_ : (ka : Int) ≠ (0 : Int) := by first | exact b1_ | simpa using b1_
  by_cases b4_ : (kb : Int) ≠ (ka : Int)
  · have h5_ := (if_pos b4_).symm.trans h2_
    obtain rfl := Option.some.inj h5_
    exact con_pc (op := true) (I := [16]) (sp := winErr_sp) 3000 (bF 8 (bT 1 [])) [] [c_en b3_, c_en b3_, c_en b3_, c_en b3_, c_en b3_, c_en b3_, c_en b3_, c_en b3_, c_b b4_] [] (by kernel_rfl)
  have h5_ := (if_neg b4_).symm.trans h2_
  have b6_ : (kb : Int) = (ka : Int) := by first | exact b4_ | simpa using b4_
  by_cases b7_ : (ka : Int) > (15 : Int)
  · have h8_ := (if_pos b7_).symm.trans h5_
    obtain rfl := Option.some.inj h8_
    exact con_pc (op := true) (I := [16]) (sp := winErr_sp) 3000 (bF 9 (bT 1 [])) [] [c_en b3_, c_en b3_, c_en b3_, c_en b3_, c_en b3_, c_en b3_, c_en b3_, c_en b3_, c_bn b6_, c_d b7_] [] (by kernel_rfl)
  have h8_ := (if_neg b7_).symm.trans h5_
  obtain ⟨j, ds, e9_, h10_⟩ := bindL_elim h8_
  by_cases j11_ : j = 0
  · have h14_ := (if_pos j11_).symm.trans h10_
    clear h10_
    subst j11_
    obtain ⟨l0, e12_, h15_⟩ := pullD_elim h14_
    clear h14_
    obtain rfl := tup_inj e12_
    have k13_ := winErr_L7_in0 ka ca kb cb e9_
    obtain ⟨j, ds, e16_, h17_⟩ := bindL_elim h15_
    by_cases j18_ : j = 0
    · have h21_ := (if_pos j18_).symm.trans h17_
      clear h17_
      subst j18_
      obtain ⟨l1, e19_, h22_⟩ := pullD_elim h21_
      clear h21_
      obtain rfl := tup_inj e19_
      have k20_ := winErr_L13_in0 ka ca kb cb l0 e16_
      by_cases b23_ : l1 ≠ (0 : Int)
      · have h24_ := (if_pos b23_).symm.trans h22_
        obtain rfl := Option.some.inj h24_
        exact con_pc (op := true) (I := [16]) (sp := winErr_sp) 3000 (bF 10 (bT 1 [])) [.tup [iD (Int.ofNat 0), iD l0], .tup [iD (Int.ofNat 0), iD l1]] [c_en b3_, c_en b3_, c_en b3_, c_en b3_, c_en b3_, c_en b3_, c_en b3_, c_en b3_, c_bn b6_, c_n b7_, c_b b23_] [k_l k13_ (bT 1 []) [.tup [iD (Int.ofNat 0), iD l0], .tup [iD (Int.ofNat 0), iD l1]] [.tup [iD (Int.ofNat 0), iD l1]], k_l k20_ (bT 1 []) [.tup [iD (Int.ofNat 0), iD l1]] []] (by kernel_rfl)
      have h24_ := (if_neg b23_).symm.trans h22_
      have b25_ : l1 = (0 : Int) := by first | exact b23_ | simpa using b23_
      obtain rfl := Option.some.inj h24_
      exact con_pc (op := true) (I := [16]) (sp := winErr_sp) 3000 (bF 11 []) [.tup [iD (Int.ofNat 0), iD l0], .tup [iD (Int.ofNat 0), iD l1]] [c_en b3_, c_en b3_, c_en b3_, c_en b3_, c_en b3_, c_en b3_, c_en b3_, c_en b3_, c_bn b6_, c_n b7_, c_bn b25_] [k_l k13_ (bF 1 []) [.tup [iD (Int.ofNat 0), iD l0], .tup [iD (Int.ofNat 0), iD l1]] [.tup [iD (Int.ofNat 0), iD l1]], k_l k20_ (bF 1 []) [.tup [iD (Int.ofNat 0), iD l1]] []] (by kernel_rfl)
    have h26_ := (if_neg j18_).symm.trans h17_
    clear h17_
    by_cases j27_ : j = 1
    · have h30_ := (if_pos j27_).symm.trans h26_
      clear h26_
      subst j27_
      obtain ⟨l2, e28_, h31_⟩ := pullD_elim h30_
      clear h30_
      obtain rfl := tup_inj e28_
      have k29_ := winErr_L13_in1 ka ca kb cb l0 e16_
      obtain rfl := Option.some.inj h31_
      exact con_pc (op := true) (I := [16]) (sp := winErr_sp) 3000 (bF 10 []) [.tup [iD (Int.ofNat 0), iD l0], .tup [iD (Int.ofNat 1), iD l2]] [c_en b3_, c_en b3_, c_en b3_, c_en b3_, c_en b3_, c_en b3_, c_en b3_, c_en b3_, c_bn b6_, c_n b7_] [k_l k13_ [] [.tup [iD (Int.ofNat 0), iD l0], .tup [iD (Int.ofNat 1), iD l2]] [.tup [iD (Int.ofNat 1), iD l2]], k_l k29_ [] [.tup [iD (Int.ofNat 1), iD l2]] []] (by kernel_rfl)
    have h32_ := (if_neg j27_).symm.trans h26_
    clear h26_
    cases h32_
  have h33_ := (if_neg j11_).symm.trans h10_
  clear h10_
  by_cases j34_ : j = 1
  · have h37_ := (if_pos j34_).symm.trans h33_
    clear h33_
    subst j34_
    obtain ⟨l3, e35_, h38_⟩ := pullD_elim h37_
    clear h37_
    obtain rfl := tup_inj e35_
    have k36_ := winErr_L7_in1 ka ca kb cb e9_
    obtain rfl := Option.some.inj h38_
    exact con_pc (op := true) (I := [16]) (sp := winErr_sp) 3000 (bF 10 []) [.tup [iD (Int.ofNat 1), iD l3]] [c_en b3_, c_en b3_, c_en b3_, c_en b3_, c_en b3_, c_en b3_, c_en b3_, c_en b3_, c_bn b6_, c_n b7_] [k_l k36_ [] [.tup [iD (Int.ofNat 1), iD l3]] []] (by kernel_rfl)
  have h39_ := (if_neg j34_).symm.trans h33_
  clear h33_
  cases h39_
def m_16 (ds : List D) : Option D := pullD (α := Nat × (List D) × Nat × (List D)) (some (.tup ds)) (fun d => ((D.ln (D.at (D.at d 0) 0)), (D.lc (D.at (D.at d 0) 0)), (D.ln (D.at (D.at d 0) 1)), (D.lc (D.at (D.at d 0) 1)))) (fun (ka, ca, kb, cb) => .tup [.agg [.list ka ca, .list kb cb]]) fun (ka, ca, kb, cb) => winErr_M ka ca kb cb
theorem m_16_ok {ds : List D} {r : D} (h : m_16 ds = some r) : Con 16 ds r := by
  unfold m_16 at h
  obtain ⟨⟨ka, ca, kb, cb⟩, e0, h0⟩ := pullD_elim h
  obtain rfl := tup_inj e0
  exact winErr_M_ok ka ca kb cb h0
theorem m_16_eq (ka : Nat) (ca : List D) (kb : Nat) (cb : List D) : m_16 [.agg [.list ka ca, .list kb cb]] = winErr_M ka ca kb cb := pullD_some (ka, ca, kb, cb) rfl rfl
def copyInts_sp : List LSpec := []
def copyInts_M (k : Nat) (c : List D) : Option D := guardP ((∀ (u : D), u ∈ c → cellD u) ∧ 0 ≤ 0 ∧ (0 + k) * 8 ≤ 140737488355328 ∧ 0 + k ≤ 4611686018427387904) (guardP (c.length = k * 1) (guardP ((0 + (0 + k)) * 1 ≤ (List.take (0 * 1) [] ++ c).length ∧ 0 < 1) (some (.list (0 + k) c))))
theorem copyInts_M_ok (k : Nat) (c : List D) {r : D} (h : copyInts_M k c = some r) : Con 42 [.list k c] r := by
  unfold copyInts_M at h
  obtain ⟨f1_, h2_⟩ := guardP_elim h
  obtain ⟨f3_, h4_⟩ := guardP_elim h2_
  obtain ⟨f5_, h6_⟩ := guardP_elim h4_
  obtain rfl := Option.some.inj h6_
  exact con_pc (op := true) (I := [42]) (sp := copyInts_sp) 3000 [] [] [c_f f1_, c_f f3_, c_f f5_] [] (by kernel_rfl)
def m_42 (ds : List D) : Option D := pullD (α := Nat × (List D)) (some (.tup ds)) (fun d => ((D.ln (D.at d 0)), (D.lc (D.at d 0)))) (fun (k, c) => .tup [.list k c]) fun (k, c) => copyInts_M k c
theorem m_42_ok {ds : List D} {r : D} (h : m_42 ds = some r) : Con 42 ds r := by
  unfold m_42 at h
  obtain ⟨⟨k, c⟩, e0, h0⟩ := pullD_elim h
  obtain rfl := tup_inj e0
  exact copyInts_M_ok k c h0
theorem m_42_eq (k : Nat) (c : List D) : m_42 [.list k c] = copyInts_M k c := pullD_some (k, c) rfl rfl
def copyW_sp : List LSpec := []
def copyW_M (ka : Nat) (ca : List D) (kb : Nat) (cb : List D) : Option D := pullD (α := Nat × (List D)) (m_42 [.list ka ca]) (fun d => ((D.ln d), (D.lc d))) (fun (k0, c1) => .list k0 c1) fun (k0, c1) => (pullD (α := Nat × (List D)) (m_42 [.list kb cb]) (fun d => ((D.ln d), (D.lc d))) (fun (k2, c3) => .list k2 c3) fun (k2, c3) => (some (.agg [.list k0 c1, .list k2 c3])))
theorem copyW_M_ok (ka : Nat) (ca : List D) (kb : Nat) (cb : List D) {r : D} (h : copyW_M ka ca kb cb = some r) : Con 11 [.agg [.list ka ca, .list kb cb]] r := by
  unfold copyW_M at h
  obtain ⟨⟨k0, c1⟩, f1_, h2_⟩ := pullD_elim h
  replace f1_ := m_42_ok f1_
  obtain ⟨⟨k2, c3⟩, f3_, h4_⟩ := pullD_elim h2_
  replace f3_ := m_42_ok f3_
  obtain rfl := Option.some.inj h4_
  exact con_pc (op := true) (I := [11]) (sp := copyW_sp) 3000 [] [.list k0 c1, .list k2 c3] [] [k_c f1_, k_c f3_] (by kernel_rfl)
def m_11 (ds : List D) : Option D := pullD (α := Nat × (List D) × Nat × (List D)) (some (.tup ds)) (fun d => ((D.ln (D.at (D.at d 0) 0)), (D.lc (D.at (D.at d 0) 0)), (D.ln (D.at (D.at d 0) 1)), (D.lc (D.at (D.at d 0) 1)))) (fun (ka, ca, kb, cb) => .tup [.agg [.list ka ca, .list kb cb]]) fun (ka, ca, kb, cb) => copyW_M ka ca kb cb
theorem m_11_ok {ds : List D} {r : D} (h : m_11 ds = some r) : Con 11 ds r := by
  unfold m_11 at h
  obtain ⟨⟨ka, ca, kb, cb⟩, e0, h0⟩ := pullD_elim h
  obtain rfl := tup_inj e0
  exact copyW_M_ok ka ca kb cb h0
theorem m_11_eq (ka : Nat) (ca : List D) (kb : Nat) (cb : List D) : m_11 [.agg [.list ka ca, .list kb cb]] = copyW_M ka ca kb cb := pullD_some (ka, ca, kb, cb) rfl rfl
def none_sp : List LSpec := []
def none_M (ka : Nat) (ca : List D) (kb : Nat) (cb : List D) : Option D := (if (ka : Int) = (0 : Int) then some (.one (.bool ((kb : Int) == (0 : Int)))) else some (.one (.bool false)))
theorem none_M_ok (ka : Nat) (ca : List D) (kb : Nat) (cb : List D) {r : D} (h : none_M ka ca kb cb = some r) : Con 18 [.agg [.list ka ca, .list kb cb]] r := by
  unfold none_M at h
  by_cases b1_ : (ka : Int) = (0 : Int)
  · have h2_ := (if_pos b1_).symm.trans h
    obtain rfl := Option.some.inj h2_
    exact con_pc (op := true) (I := [18]) (sp := none_sp) 3000 (bT 5 []) [] [c_e b1_, c_e b1_, c_e b1_, c_e b1_, c_e b1_] [] (by kernel_rfl)
  have h2_ := (if_neg b1_).symm.trans h
  have b3_ : (ka : Int) ≠ (0 : Int) := by first | exact b1_ | simpa using b1_
  obtain rfl := Option.some.inj h2_
  exact con_pc (op := true) (I := [18]) (sp := none_sp) 3000 (bF 5 []) [] [c_en b3_, c_en b3_, c_en b3_, c_en b3_, c_en b3_] [] (by kernel_rfl)
def m_18 (ds : List D) : Option D := pullD (α := Nat × (List D) × Nat × (List D)) (some (.tup ds)) (fun d => ((D.ln (D.at (D.at d 0) 0)), (D.lc (D.at (D.at d 0) 0)), (D.ln (D.at (D.at d 0) 1)), (D.lc (D.at (D.at d 0) 1)))) (fun (ka, ca, kb, cb) => .tup [.agg [.list ka ca, .list kb cb]]) fun (ka, ca, kb, cb) => none_M ka ca kb cb
theorem m_18_ok {ds : List D} {r : D} (h : m_18 ds = some r) : Con 18 ds r := by
  unfold m_18 at h
  obtain ⟨⟨ka, ca, kb, cb⟩, e0, h0⟩ := pullD_elim h
  obtain rfl := tup_inj e0
  exact none_M_ok ka ca kb cb h0
theorem m_18_eq (ka : Nat) (ca : List D) (kb : Nat) (cb : List D) : m_18 [.agg [.list ka ca, .list kb cb]] = none_M ka ca kb cb := pullD_some (ka, ca, kb, cb) rfl rfl
def few_sp : List LSpec := []
def few_M (ka : Nat) (ca : List D) (kb : Nat) (cb : List D) : Option D := (if (ka : Int) ≤ (17 : Int) then some (.one (.bool (decide ((kb : Int) ≤ (17 : Int))))) else some (.one (.bool false)))
theorem few_M_ok (ka : Nat) (ca : List D) (kb : Nat) (cb : List D) {r : D} (h : few_M ka ca kb cb = some r) : Con 9 [.agg [.list ka ca, .list kb cb]] r := by
  unfold few_M at h
  by_cases b1_ : (ka : Int) ≤ (17 : Int)
  · have h2_ := (if_pos b1_).symm.trans h
    obtain rfl := Option.some.inj h2_
    exact con_pc (op := true) (I := [9]) (sp := few_sp) 3000 (bT 5 []) [] [c_d b1_, c_d b1_, c_d b1_, c_d b1_, c_d b1_] [] (by kernel_rfl)
  have h2_ := (if_neg b1_).symm.trans h
  obtain rfl := Option.some.inj h2_
  exact con_pc (op := true) (I := [9]) (sp := few_sp) 3000 (bF 5 []) [] [c_n b1_, c_n b1_, c_n b1_, c_n b1_, c_n b1_] [] (by kernel_rfl)
def m_9 (ds : List D) : Option D := pullD (α := Nat × (List D) × Nat × (List D)) (some (.tup ds)) (fun d => ((D.ln (D.at (D.at d 0) 0)), (D.lc (D.at (D.at d 0) 0)), (D.ln (D.at (D.at d 0) 1)), (D.lc (D.at (D.at d 0) 1)))) (fun (ka, ca, kb, cb) => .tup [.agg [.list ka ca, .list kb cb]]) fun (ka, ca, kb, cb) => few_M ka ca kb cb
theorem m_9_ok {ds : List D} {r : D} (h : m_9 ds = some r) : Con 9 ds r := by
  unfold m_9 at h
  obtain ⟨⟨ka, ca, kb, cb⟩, e0, h0⟩ := pullD_elim h
  obtain rfl := tup_inj e0
  exact few_M_ok ka ca kb cb h0
theorem m_9_eq (ka : Nat) (ca : List D) (kb : Nat) (cb : List D) : m_9 [.agg [.list ka ca, .list kb cb]] = few_M ka ca kb cb := pullD_some (ka, ca, kb, cb) rfl rfl
end
end Go.Proofs.Ytbfefnfmdkgfjaa
/- Windows: which are valid, sums, residuals. -/
namespace Go.Proofs.Ytbfefnfmdkgfjaa
open Go.Ev Go.RowKit
set_option maxRecDepth 100000
abbrev wnD (a b : List Int) : D := .agg [lD a, lD b]
/-- A valid window. -/
structure Win (a b : List Int) : Prop where
  len : b.length = a.length
  pos : 0 < a.length
  le : a.length ≤ 15
  ra : ∀ i, -100 ≤ at' a i ∧ at' a i ≤ 100
  rb : ∀ i, -100 ≤ at' b i ∧ at' b i ≤ 100
  sum : sumTo (at' a) a.length + sumTo (at' b) a.length = 0
theorem within_eq (n lo hi : Int) : m_25 [iD n, iD lo, iD hi] = some (.one (.bool (decide (lo ≤ n ∧ n ≤ hi)))) := by
  rw [m_25_eq]
  unfold within_M
  by_cases h : lo ≤ n
  · rw [if_pos h]; simp [h]
  · rw [if_neg h]; simp [h]
theorem readN {l : List Int} {i : Nat} (h : i < l.length) : readD (l.map iD) (i * 1) 1 false = some (iD (at' l i)) := readA h
theorem readM {n i : Nat} (f : Nat → Int) (h : i < n) : readD ((tab n f).map iD) (i * 1) 1 false = some (iD (f i)) := readT f h
theorem readM0 {n i : Nat} (f : Nat → Int) (h : i < n) : readD ((tab n f).map iD) (0 + i * 1) 1 false = some (iD (f i)) := by rw [Nat.zero_add]; exact readT f h
theorem natI {i : Nat} (h : i < 1000000000000000) : IntKind.i64.wrap ((i : Int) + 1) = ((i + 1 : Nat) : Int) := by rw [wrapJ _ (by omega) (by omega)]; omega
theorem range_all {l : List Int} (h : ∀ j, 0 ≤ j → j < l.length → -100 ≤ at' l j ∧ at' l j ≤ 100) : ∀ i, -100 ≤ at' l i ∧ at' l i ≤ 100 := fun i => by
  rcases Nat.lt_or_ge i l.length with h1 | h1
  · exact h i (Nat.zero_le _) h1
  · rw [at_out h1]; omega
theorem sums_eq (l : List Int) (hl : l.length ≤ 1000) (hb : ∀ k, k ≤ l.length → -1000000000000 ≤ sumTo (at' l) k ∧ sumTo (at' l) k ≤ 1000000000000) :
    m_66 [lD l] = some (lD (tab (l.length + 1) (sumTo (at' l)))) := by
  rw [m_66_eq]
  unfold sumsOf_M
  have e1 : IntKind.i64.wrap ((l.length : Int) + 1) = ((l.length + 1 : Nat) : Int) := natI (by omega)
  rw [e1, Int.toNat_natCast, guardP_pos ⟨by omega, by omega, by omega, by omega⟩, guardP_pos (Nat.le_refl _), zeros_list, tab_zeros]
  have h0 : (tab (l.length + 1) fun j => if j ≤ 0 then sumTo (at' l) j else 0) = tab (l.length + 1) fun _ => 0 := by
    apply tab_congr
    intro j hj
    split
    · rename_i h; have : j = 0 := by omega
      subst this; rfl
    · rfl
  rw [← h0]
  have h1 : runR (sumsOf_L3_S l.length (l.map iD)) (.next 0 [iD 0, .list (l.length + 1) ((tab (l.length + 1) fun j => if j ≤ 0 then sumTo (at' l) j else 0).map iD)]) = _ := runR_scan (S := sumsOf_L3_S l.length (l.map iD)) (fun _ => 0) (fun i => [iD (i : Int), .list (l.length + 1) ((tab (l.length + 1) fun j => if j ≤ i then sumTo (at' l) j else 0).map iD)]) (Nat.zero_le l.length) (fun i _ hi => by
    show sumsOf_L3_S0 _ _ _ = _
    unfold sumsOf_L3_S0
    rw [pullD_some ((i : Int), l.length + 1, (tab (l.length + 1) fun j => if j ≤ i then sumTo (at' l) j else 0).map iD) (by rfl) (by rfl)]
    dsimp only
    have e2 : IntKind.i64.wrap ((i : Int) + 1) = ((i + 1 : Nat) : Int) := natI (by omega)
    have h2 := hb (i + 1) hi
    simp only [e1, e2, Int.toNat_natCast]
    rw [if_pos (by omega), guardP_pos (by omega), readN hi, pullD_some (at' l i) (by rfl) (by rfl), guardP_pos (by omega), readM0 _ (by omega), pullD_some (if i ≤ i then sumTo (at' l) i else 0) (by rfl) (by rfl), guardP_pos (by omega), if_pos (Nat.le_refl i)]
    have e3 : IntKind.i64.wrap (sumTo (at' l) i + at' l i) = sumTo (at' l) (i + 1) := by
      show _ = sumTo (at' l) i + at' l i
      have : sumTo (at' l) (i + 1) = sumTo (at' l) i + at' l i := rfl
      exact wrapJ _ (by omega) (by omega)
    rw [guardP_pos ⟨by simp [tab_len]; omega, cellD_int _⟩, e3, set_list _ _ _ (by rw [tab_len]; omega), tab_set]
    have h5 : (tab (l.length + 1) fun j => if j = i + 1 then sumTo (at' l) (i + 1) else if j ≤ i then sumTo (at' l) j else 0) = tab (l.length + 1) fun j => if j ≤ i + 1 then sumTo (at' l) j else 0 := tab_congr fun j hj => by
      by_cases h3 : j = i + 1
      · subst h3; simp
      · simp only [h3, if_false]
        by_cases h4 : j ≤ i
        · rw [if_pos h4, if_pos (by omega)]
        · rw [if_neg h4, if_neg (by omega)]
    rw [h5])
  have h2 : runR (sumsOf_L3_S l.length (l.map iD)) (.next 0 [iD (l.length : Int), .list (l.length + 1) ((tab (l.length + 1) fun j => if j ≤ l.length then sumTo (at' l) j else 0).map iD)]) = some (.out 0 [.list (l.length + 1) ((tab (l.length + 1) fun j => if j ≤ l.length then sumTo (at' l) j else 0).map iD)]) := runR_exit (by
    show sumsOf_L3_S0 _ _ _ = _
    unfold sumsOf_L3_S0
    rw [pullD_some ((l.length : Int), l.length + 1, (tab (l.length + 1) fun j => if j ≤ l.length then sumTo (at' l) j else 0).map iD) (by rfl) (by rfl)]
    dsimp only
    rw [if_neg (by omega), e1, Int.toNat_natCast])
  rw [bindL_some (h1.trans h2), if_pos rfl, pullD_some (l.length + 1, (tab (l.length + 1) fun j => if j ≤ l.length then sumTo (at' l) j else 0).map iD) (by rfl) (by rfl)]
  have h3 : (tab (l.length + 1) fun j => if j ≤ l.length then sumTo (at' l) j else 0) = tab (l.length + 1) (sumTo (at' l)) := tab_congr fun j hj => if_pos (by omega)
  simp only [h3, lD, tab_len]
theorem sum_eq (l : List Int) (hl : l.length ≤ 1000) (hb : ∀ k, k ≤ l.length → -1000000000000 ≤ sumTo (at' l) k ∧ sumTo (at' l) k ≤ 1000000000000) :
    m_52 [lD l] = some (iD (sumTo (at' l) l.length)) := by
  rw [m_52_eq]
  unfold sumOf_M
  rw [show [D.list l.length (l.map iD)] = [lD l] from rfl, sums_eq l hl hb, pullD_some (l.length + 1, (tab (l.length + 1) (sumTo (at' l))).map iD) (by simp only [lD, tab_len]) (by rfl)]
  dsimp only
  rw [guardP_pos (by omega), readT _ (by omega), pullD_some (sumTo (at' l) l.length) (by rfl) (by rfl)]
end Go.Proofs.Ytbfefnfmdkgfjaa
