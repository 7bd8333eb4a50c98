import Derived.Test.YtjjbacbjdilhmaaTE
set_option linter.unusedVariables false
set_option linter.unusedSimpArgs false
set_option linter.unusedSectionVars false
set_option linter.unnecessarySimpa false
namespace Go.Proofs.Ytjjbacbjdilhmaa
open Go.Ev Go.RowKit
set_option maxRecDepth 100000
set_option maxHeartbeats 8000000
set_option linter.all false
noncomputable section
def w_trimmed_x2_0 : LExit := ⟨some 0, [.val 3], (List.range' 6 12)⟩
def w_trimmed_sp : List LSpec := [⟨120, 2, [w_trimmed_x2_0]⟩]
def w_trimmed_L2_E (ka : Nat) (ca : List D)  : List AV × AHeap := ([.dsl 0, .pure (.tuple #[]), .pure (.slice none 0 0), .pure (.int .i64 (ka : Int)), .dsl 0, .pure (.int .i64 (ka : Int)), .pure (.tuple #[]), .pure (.tuple #[]), .pure (.tuple #[]), .pure (.tuple #[]), .pure (.tuple #[]), .pure (.tuple #[]), .pure (.tuple #[]), .pure (.tuple #[]), .pure (.tuple #[]), .pure (.tuple #[]), .pure (.tuple #[]), .pure (.tuple #[]), .pure (.tuple #[]), .pure (.tuple #[]), .pure (.tuple #[])], [(0, { cells := [], opn := none, kind := .deep ka ca })])
def w_trimmed_L2_A : LoopAt := ⟨120, loopAt Try.prog 120 0, 1, 14, 1, noFrame⟩
theorem w_trimmed_L2_ok : (w_trimmed_L2_A).OK := ⟨by show 1 ≤ 14; decide, by show 1 ≤ 1; decide, by kernel_rfl, rfl⟩
def w_trimmed_L2_gs (ka : Nat) (ca : List D)  : Go.Ev.Rd → Option GS
  | .next 0 ds => ghost [.val 3] (List.range' 6 12) (w_trimmed_L2_E ka ca).1 (w_trimmed_L2_E ka ca).2 1 ds
  | .out 0 ds => ghost w_trimmed_x2_0.live w_trimmed_x2_0.junk (w_trimmed_L2_E ka ca).1 (w_trimmed_L2_E ka ca).2 1 ds
  | _ => none
def w_trimmed_L2_ex : Nat → Option Nat
  | 0 => w_trimmed_x2_0.ex
  | _ => none
def w_trimmed_L2_ax : Go.Ev.Rd → AX
  | .next _ _ => .normal
  | .out j _ => axOf (w_trimmed_L2_ex j)
def w_trimmed_L2_S0 (ka : Nat) (ca : List D)  (ds : List D) : Option Go.Ev.Rd := pullD (α := Int) (some (.tup ds)) (fun d => ((D.vi (D.at d 0)))) (fun s3 => .tup [iD s3]) fun s3 => ((if s3 > (0 : Int) then guardP ((0 : Int) ≤ IntKind.i64.wrap (s3 - (1 : Int)) ∧ (IntKind.i64.wrap (s3 - (1 : Int))).toNat < ka) (pullD (α := Int) (readD ca ((IntKind.i64.wrap (s3 - (1 : Int))).toNat * 1) 1 false) (fun d => ((D.vi d))) (fun v0 => iD v0) fun v0 => ((if v0 = (0 : Int) then some (.next 0 [iD (IntKind.i64.wrap (s3 - (1 : Int)))]) else some (.out 0 [iD s3])))) else some (.out 0 [iD s3])))
def w_trimmed_L2_S (ka : Nat) (ca : List D)  : Go.Ev.Rd → Option Go.Ev.Rd
  | .next 0 ds => w_trimmed_L2_S0 ka ca ds
  | _ => none
theorem w_trimmed_L2_S_ok (ka : Nat) (ca : List D)  : ∀ s_ t_, w_trimmed_L2_S ka ca s_ = some t_ → Step (ctx [120] w_trimmed_sp) Tabs w_trimmed_L2_A (stateOf (w_trimmed_L2_gs ka ca s_)) (stateOf (w_trimmed_L2_gs ka ca t_)) (w_trimmed_L2_ax t_) ∧ EndOK w_trimmed_L2_A.nx w_trimmed_L2_A.low (w_trimmed_L2_gs ka ca) t_
  | .next 0 ds, t_, h => by
    have h_ : w_trimmed_L2_S0 ka ca ds = some t_ := h
    clear h
    unfold w_trimmed_L2_S0 at h_
    obtain ⟨s3, e0, h0⟩ := pullD_elim h_
    clear h_
    obtain rfl := tup_inj e0
    by_cases b1_ : s3 > (0 : Int)
    · have h2_ := (if_pos b1_).symm.trans h0
      obtain ⟨f3_, h4_⟩ := guardP_elim h2_
      obtain ⟨v0, f5_, h6_⟩ := pullD_elim h4_
      replace f5_ := readD_elim f5_
      by_cases b7_ : v0 = (0 : Int)
      · have h8_ := (if_pos b7_).symm.trans h6_
        obtain rfl := Option.some.inj h8_
        exact ⟨step_pc 3000 (bT 8 []) [iD v0] [c_d b1_, c_d b1_, c_d b1_, c_d b1_, c_f f3_, c_d b1_, c_f f5_, c_d b1_, c_d b1_, c_e b7_] [] _ rfl (by kernel_rfl) (by kernel_rfl) (by kernel_rfl) (by kernel_rfl) (by kernel_rfl) (by kernel_rfl), trivial⟩
      have h8_ := (if_neg b7_).symm.trans h6_
      have b9_ : v0 ≠ (0 : Int) := by first | exact b7_ | simpa using b7_
      obtain rfl := Option.some.inj h8_
      exact ⟨step_pc 3000 (bT 7 (bF 1 [])) [iD v0] [c_d b1_, c_d b1_, c_d b1_, c_d b1_, c_f f3_, c_d b1_, c_f f5_, c_d b1_, c_d b1_, c_en b9_] [] _ rfl (by kernel_rfl) (by kernel_rfl) (by kernel_rfl) (by kernel_rfl) (by kernel_rfl) (by kernel_rfl), by kernel_rfl, by kernel_rfl⟩
    have h2_ := (if_neg b1_).symm.trans h0
    obtain rfl := Option.some.inj h2_
    exact ⟨step_pc 3000 (bF 8 []) [] [c_n b1_, c_n b1_, c_n b1_, c_n b1_, c_n b1_, c_n b1_, c_n b1_, c_F] [] _ rfl (by kernel_rfl) (by kernel_rfl) (by kernel_rfl) (by kernel_rfl) (by kernel_rfl) (by kernel_rfl), by kernel_rfl, by kernel_rfl⟩
  | .next (_ + 1) _, _, h => by cases h
  | .out _ _, _, h => by cases h
theorem w_trimmed_L2_go (ka : Nat) (ca : List D)  {q : Nat} {ds : List D} {j : Nat} {es : List D} (h : runR (w_trimmed_L2_S ka ca) (.next q ds) = some (.out j es)) : Runs (ctx [120] w_trimmed_sp) Tabs w_trimmed_L2_A (stateOf (w_trimmed_L2_gs ka ca (.next q ds))) (stateOf (w_trimmed_L2_gs ka ca (.out j es))) (w_trimmed_L2_ax (.out j es)) ∧ (nxtOf (w_trimmed_L2_gs ka ca (.out j es)), lowGS (w_trimmed_L2_gs ka ca (.out j es))) = (w_trimmed_L2_A.nx, w_trimmed_L2_A.low) :=
  runs_of' (good true _ _) w_trimmed_L2_ok (ax := w_trimmed_L2_ax) (fun _ _ => rfl) (fun _ _ => axOf_end _) (w_trimmed_L2_S_ok ka ca) h
theorem w_trimmed_L2_in0 (ka : Nat) (ca : List D)  {es : List D} (h : runR (w_trimmed_L2_S ka ca) (.next 0 [iD ((ka : Int))]) = some (.out 0 es)) : LoopC (loopAt Try.prog 120 0) (w_trimmed_L2_E ka ca) 1 noFrame w_trimmed_x2_0 es :=
  have r := w_trimmed_L2_go ka ca h
  loopin_as rfl (loop_in (l := w_trimmed_L2_A) (E := (w_trimmed_L2_E ka ca)) (S := stateOf (w_trimmed_L2_gs ka ca (.next 0 [iD ((ka : Int))]))) (ns := nsOf (w_trimmed_L2_gs ka ca (.next 0 [iD ((ka : Int))]))) w_trimmed_L2_ok r.1 r.2 (by kernel_rfl) (by kernel_rfl) (by kernel_rfl) (by kernel_rfl))
def w_trimmed_M (ka : Nat) (ca : List D) : Option D := bindL (runR (w_trimmed_L2_S ka ca) (.next 0 [iD ((ka : Int))])) fun j ds => (if j = 0 then pullD (α := Int) (some (.tup ds)) (fun d => ((D.vi (D.at d 0)))) (fun l0 => .tup [iD l0]) fun l0 => (guardP ((0 : Int) ≤ (0 : Int) ∧ (0 : Int) ≤ l0 ∧ l0 ≤ (ka : Int) ∧ ca.length = ka * 1) (some (.list (l0.toNat - Int.toNat (0 : Int)) (List.take ((l0.toNat - Int.toNat (0 : Int)) * 1) (List.drop (Int.toNat (0 : Int) * 1) ca))))) else none)
theorem w_trimmed_M_ok (ka : Nat) (ca : List D) {r : D} (h : w_trimmed_M ka ca = some r) : Con 120 [.list ka ca] r := by
  unfold w_trimmed_M at h
  obtain ⟨j, ds, e1_, h2_⟩ := bindL_elim h
  by_cases j3_ : j = 0
  · have h6_ := (if_pos j3_).symm.trans h2_
    clear h2_
    subst j3_
    obtain ⟨l0, e4_, h7_⟩ := pullD_elim h6_
    clear h6_
    obtain rfl := tup_inj e4_
    have k5_ := w_trimmed_L2_in0 ka ca e1_
    obtain ⟨f8_, h9_⟩ := guardP_elim h7_
    obtain rfl := Option.some.inj h9_
    exact con_pc (op := true) (I := [120]) (sp := w_trimmed_sp) 3000 [] [.tup [iD (Int.ofNat 0), iD l0]] [c_f f8_] [k_l k5_ [] [.tup [iD (Int.ofNat 0), iD l0]] []] (by kernel_rfl)
  have h10_ := (if_neg j3_).symm.trans h2_
  clear h2_
  cases h10_
def m_120 (ds : List D) : Option D := pullD (α := Nat × (List D)) (some (.tup ds)) (fun d => ((D.ln (D.at d 0)), (D.lc (D.at d 0)))) (fun (ka, ca) => .tup [.list ka ca]) fun (ka, ca) => w_trimmed_M ka ca
theorem m_120_ok {ds : List D} {r : D} (h : m_120 ds = some r) : Con 120 ds r := by
  unfold m_120 at h
  obtain ⟨⟨ka, ca⟩, e0, h0⟩ := pullD_elim h
  obtain rfl := tup_inj e0
  exact w_trimmed_M_ok ka ca h0
theorem m_120_eq (ka : Nat) (ca : List D) : m_120 [.list ka ca] = w_trimmed_M ka ca := pullD_some (ka, ca) rfl rfl
def w_wideOf_sp : List LSpec := []
def w_wideOf_M (sa : Int) (ka : Nat) (ca : List D) : Option D := pullD (α := Nat × (List D)) (m_120 [.list ka ca]) (fun d => ((D.ln d), (D.lc d))) (fun (k0, c1) => .list k0 c1) fun (k0, c1) => ((if (k0 : Int) = (0 : Int) then some (.agg [iD (0 : Int), .list k0 c1]) else some (.agg [iD sa, .list k0 c1])))
theorem w_wideOf_M_ok (sa : Int) (ka : Nat) (ca : List D) {r : D} (h : w_wideOf_M sa ka ca = some r) : Con 110 [iD sa, .list ka ca] r := by
  unfold w_wideOf_M at h
  obtain ⟨⟨k0, c1⟩, f1_, h2_⟩ := pullD_elim h
  replace f1_ := m_120_ok f1_
  by_cases b3_ : (k0 : Int) = (0 : Int)
  · have h4_ := (if_pos b3_).symm.trans h2_
    obtain rfl := Option.some.inj h4_
    exact con_pc (op := true) (I := [110]) (sp := w_wideOf_sp) 3000 (bT 1 []) [.list k0 c1] [c_e b3_] [k_c f1_] (by kernel_rfl)
  have h4_ := (if_neg b3_).symm.trans h2_
  have b5_ : (k0 : Int) ≠ (0 : Int) := by first | exact b3_ | simpa using b3_
  obtain rfl := Option.some.inj h4_
  exact con_pc (op := true) (I := [110]) (sp := w_wideOf_sp) 3000 (bF 1 []) [.list k0 c1] [c_en b5_] [k_c f1_] (by kernel_rfl)
def m_110 (ds : List D) : Option D := pullD (α := Int × Nat × (List D)) (some (.tup ds)) (fun d => ((D.vi (D.at d 0)), (D.ln (D.at d 1)), (D.lc (D.at d 1)))) (fun (sa, ka, ca) => .tup [iD sa, .list ka ca]) fun (sa, ka, ca) => w_wideOf_M sa ka ca
theorem m_110_ok {ds : List D} {r : D} (h : m_110 ds = some r) : Con 110 ds r := by
  unfold m_110 at h
  obtain ⟨⟨sa, ka, ca⟩, e0, h0⟩ := pullD_elim h
  obtain rfl := tup_inj e0
  exact w_wideOf_M_ok sa ka ca h0
theorem m_110_eq (sa : Int) (ka : Nat) (ca : List D) : m_110 [iD sa, .list ka ca] = w_wideOf_M sa ka ca := pullD_some (sa, ka, ca) rfl rfl
def w_of_x5_0 : LExit := ⟨some 0, [.grow 4 1], (0 :: (List.range' 9 9))⟩
def w_of_x5_1 : LExit := ⟨some 0, [.nil 4], (0 :: (List.range' 9 9))⟩
def w_of_sp : List LSpec := [⟨92, 5, [w_of_x5_0, w_of_x5_1]⟩]
def w_of_L5_1_E (n : Int)  : List AV × AHeap := ([.pure (.int .i64 n), .pure (.tuple #[]), .ptr 0 0, .pure (.int .i64 (1 : Int)), .pure (.slice none 0 0), .pure (.int .i64 n), .pure (.bool (decide (n < (0 : Int)))), .pure (.tuple #[]), .pure (.tuple #[]), .pure (.tuple #[]), .pure (.tuple #[]), .pure (.tuple #[]), .pure (.tuple #[]), .pure (.tuple #[]), .pure (.tuple #[]), .pure (.tuple #[]), .pure (.tuple #[]), .pure (.tuple #[]), .pure (.tuple #[]), .pure (.tuple #[]), .pure (.tuple #[])], [(0, { cells := [.pure (.int .i64 (0 : Int)), .pure (.slice none 0 0)], opn := none, kind := .cells })])
def w_of_L5_1_A : LoopAt := ⟨92, loopAt Try.prog 92 0, 1, 12, 1, noFrame⟩
theorem w_of_L5_1_ok : (w_of_L5_1_A).OK := ⟨by show 1 ≤ 12; decide, by show 1 ≤ 1; decide, by kernel_rfl, rfl⟩
def w_of_L5_1_gs (n : Int)  : Go.Ev.Rd → Option GS
  | .next 0 ds => ghost [.val 0, .grow 4 1] (List.range' 9 9) (w_of_L5_1_E n).1 (w_of_L5_1_E n).2 1 ds
  | .next 1 ds => ghost [.val 0, .nil 4] (List.range' 9 9) (w_of_L5_1_E n).1 (w_of_L5_1_E n).2 1 ds
  | .out 0 ds => ghost w_of_x5_0.live w_of_x5_0.junk (w_of_L5_1_E n).1 (w_of_L5_1_E n).2 1 ds
  | .out 1 ds => ghost w_of_x5_1.live w_of_x5_1.junk (w_of_L5_1_E n).1 (w_of_L5_1_E n).2 1 ds
  | _ => none
def w_of_L5_1_ex : Nat → Option Nat
  | 0 => w_of_x5_0.ex
  | 1 => w_of_x5_1.ex
  | _ => none
def w_of_L5_1_ax : Go.Ev.Rd → AX
  | .next _ _ => .normal
  | .out j _ => axOf (w_of_L5_1_ex j)
def w_of_L5_1_S0 (n : Int)  (ds : List D) : Option Go.Ev.Rd := pullD (α := Int × Nat × (List D)) (some (.tup ds)) (fun d => ((D.vi (D.at d 0)), (D.ln (D.at d 1)), (D.lc (D.at d 1)))) (fun (s0, s4n, s4c) => .tup [iD s0, .list s4n s4c]) fun (s0, s4n, s4c) => ((if s0 > (0 : Int) then guardP ((∀ (u : D), u ∈ [dCell (.int .i64 (s0.tmod (1000000000 : Int)))] → cellD u) ∧ s4n * 1 ≤ s4c.length ∧ (s4n + (0 + 1)) * 8 ≤ 140737488355328 ∧ s4n + (0 + 1) ≤ 4611686018427387904) (some (.next 0 [iD (IntKind.i64.wrap (s0.tdiv (1000000000 : Int))), .list (s4n + (0 + 1)) (List.append (List.take (s4n * 1) s4c) [dCell (.int .i64 (s0.tmod (1000000000 : Int)))])])) else some (.out 0 [.list s4n s4c])))
def w_of_L5_1_S1 (n : Int)  (ds : List D) : Option Go.Ev.Rd := pullD (α := Int) (some (.tup ds)) (fun d => ((D.vi (D.at d 0)))) (fun s0 => .tup [iD s0, .one (.tuple #[])]) fun s0 => ((if s0 > (0 : Int) then some (.next 0 [iD (IntKind.i64.wrap (s0.tdiv (1000000000 : Int))), .list 1 [iD (s0.tmod (1000000000 : Int))]]) else some (.out 1 [.one (.tuple #[])])))
def w_of_L5_1_S (n : Int)  : Go.Ev.Rd → Option Go.Ev.Rd
  | .next 0 ds => w_of_L5_1_S0 n ds
  | .next 1 ds => w_of_L5_1_S1 n ds
  | _ => none
theorem w_of_L5_1_S_ok (n : Int)  : ∀ s_ t_, w_of_L5_1_S n s_ = some t_ → Step (ctx [92] w_of_sp) Tabs w_of_L5_1_A (stateOf (w_of_L5_1_gs n s_)) (stateOf (w_of_L5_1_gs n t_)) (w_of_L5_1_ax t_) ∧ EndOK w_of_L5_1_A.nx w_of_L5_1_A.low (w_of_L5_1_gs n) t_
  | .next 0 ds, t_, h => by
    have h_ : w_of_L5_1_S0 n ds = some t_ := h
    clear h
    unfold w_of_L5_1_S0 at h_
    obtain ⟨⟨s0, s4n, s4c⟩, e0, h0⟩ := pullD_elim h_
    clear h_
    obtain rfl := tup_inj e0
    by_cases b1_ : s0 > (0 : Int)
    · have h2_ := (if_pos b1_).symm.trans h0
      obtain ⟨f3_, h4_⟩ := guardP_elim h2_
      obtain rfl := Option.some.inj h4_
      exact ⟨step_pc 3000 (bT 1 []) [] [c_d b1_, c_F, c_f f3_, c_F] [] _ rfl (by kernel_rfl) (by kernel_rfl) (by kernel_rfl) (by kernel_rfl) (by kernel_rfl) (by kernel_rfl), trivial⟩
    have h2_ := (if_neg b1_).symm.trans h0
    obtain rfl := Option.some.inj h2_
    exact ⟨step_pc 3000 (bF 1 []) [] [c_n b1_] [] _ rfl (by kernel_rfl) (by kernel_rfl) (by kernel_rfl) (by kernel_rfl) (by kernel_rfl) (by kernel_rfl), by kernel_rfl, by kernel_rfl⟩
  | .next 1 ds, t_, h => by
    have h_ : w_of_L5_1_S1 n ds = some t_ := h
    clear h
    unfold w_of_L5_1_S1 at h_
    obtain ⟨s0, e0, h0⟩ := pullD_elim h_
    clear h_
    obtain rfl := tup_inj e0
    by_cases b1_ : s0 > (0 : Int)
    · have h2_ := (if_pos b1_).symm.trans h0
      obtain rfl := Option.some.inj h2_
      exact ⟨step_pc 3000 (bT 1 []) [] [c_d b1_, c_F, ⟨fact (0 < 0 + 1 ∧ (0 + 1) * 8 ≤ 140737488355328 ∧ 0 + 1 ≤ 4611686018427387904), true, fact_mk (by decide)⟩, c_F] [] _ rfl (by kernel_rfl) (by kernel_rfl) (by kernel_rfl) (by kernel_rfl) (by kernel_rfl) (by kernel_rfl), trivial⟩
    have h2_ := (if_neg b1_).symm.trans h0
    obtain rfl := Option.some.inj h2_
    exact ⟨step_pc 3000 (bF 1 []) [] [c_n b1_] [] _ rfl (by kernel_rfl) (by kernel_rfl) (by kernel_rfl) (by kernel_rfl) (by kernel_rfl) (by kernel_rfl), by kernel_rfl, by kernel_rfl⟩
  | .next (_ + 2) _, _, h => by cases h
  | .out _ _, _, h => by cases h
theorem w_of_L5_1_go (n : Int)  {q : Nat} {ds : List D} {j : Nat} {es : List D} (h : runR (w_of_L5_1_S n) (.next q ds) = some (.out j es)) : Runs (ctx [92] w_of_sp) Tabs w_of_L5_1_A (stateOf (w_of_L5_1_gs n (.next q ds))) (stateOf (w_of_L5_1_gs n (.out j es))) (w_of_L5_1_ax (.out j es)) ∧ (nxtOf (w_of_L5_1_gs n (.out j es)), lowGS (w_of_L5_1_gs n (.out j es))) = (w_of_L5_1_A.nx, w_of_L5_1_A.low) :=
  runs_of' (good true _ _) w_of_L5_1_ok (ax := w_of_L5_1_ax) (fun _ _ => rfl) (fun _ _ => axOf_end _) (w_of_L5_1_S_ok n) h
theorem w_of_L5_1_in0 (n : Int)  {es : List D} (h : runR (w_of_L5_1_S n) (.next 1 [iD n, .one (.tuple #[])]) = some (.out 0 es)) : LoopC (loopAt Try.prog 92 0) (w_of_L5_1_E n) 1 noFrame w_of_x5_0 es :=
  have r := w_of_L5_1_go n h
  loopin_as rfl (loop_in (l := w_of_L5_1_A) (E := (w_of_L5_1_E n)) (S := stateOf (w_of_L5_1_gs n (.next 1 [iD n, .one (.tuple #[])]))) (ns := nsOf (w_of_L5_1_gs n (.next 1 [iD n, .one (.tuple #[])]))) w_of_L5_1_ok r.1 r.2 (by kernel_rfl) (by kernel_rfl) (by kernel_rfl) (by kernel_rfl))
theorem w_of_L5_1_in1 (n : Int)  {es : List D} (h : runR (w_of_L5_1_S n) (.next 1 [iD n, .one (.tuple #[])]) = some (.out 1 es)) : LoopC (loopAt Try.prog 92 0) (w_of_L5_1_E n) 1 noFrame w_of_x5_1 es :=
  have r := w_of_L5_1_go n h
  loopin_as rfl (loop_in (l := w_of_L5_1_A) (E := (w_of_L5_1_E n)) (S := stateOf (w_of_L5_1_gs n (.next 1 [iD n, .one (.tuple #[])]))) (ns := nsOf (w_of_L5_1_gs n (.next 1 [iD n, .one (.tuple #[])]))) w_of_L5_1_ok r.1 r.2 (by kernel_rfl) (by kernel_rfl) (by kernel_rfl) (by kernel_rfl))
def w_of_L5_E (n : Int)  : List AV × AHeap := ([.pure (.int .i64 (IntKind.i64.wrap ((0 : Int) - n))), .pure (.tuple #[]), .ptr 0 0, .pure (.int .i64 (-1 : Int)), .pure (.slice none 0 0), .pure (.int .i64 n), .pure (.bool (decide (n < (0 : Int)))), .pure (.int .i64 n), .pure (.int .i64 (IntKind.i64.wrap ((0 : Int) - n))), .pure (.tuple #[]), .pure (.tuple #[]), .pure (.tuple #[]), .pure (.tuple #[]), .pure (.tuple #[]), .pure (.tuple #[]), .pure (.tuple #[]), .pure (.tuple #[]), .pure (.tuple #[]), .pure (.tuple #[]), .pure (.tuple #[]), .pure (.tuple #[])], [(0, { cells := [.pure (.int .i64 (0 : Int)), .pure (.slice none 0 0)], opn := none, kind := .cells })])
def w_of_L5_A : LoopAt := ⟨92, loopAt Try.prog 92 0, 1, 12, 1, noFrame⟩
theorem w_of_L5_ok : (w_of_L5_A).OK := ⟨by show 1 ≤ 12; decide, by show 1 ≤ 1; decide, by kernel_rfl, rfl⟩
def w_of_L5_gs (n : Int)  : Go.Ev.Rd → Option GS
  | .next 0 ds => ghost [.val 0, .grow 4 1] (List.range' 9 9) (w_of_L5_E n).1 (w_of_L5_E n).2 1 ds
  | .next 1 ds => ghost [.val 0, .nil 4] (List.range' 9 9) (w_of_L5_E n).1 (w_of_L5_E n).2 1 ds
  | .out 0 ds => ghost w_of_x5_0.live w_of_x5_0.junk (w_of_L5_E n).1 (w_of_L5_E n).2 1 ds
  | .out 1 ds => ghost w_of_x5_1.live w_of_x5_1.junk (w_of_L5_E n).1 (w_of_L5_E n).2 1 ds
  | _ => none
def w_of_L5_ex : Nat → Option Nat
  | 0 => w_of_x5_0.ex
  | 1 => w_of_x5_1.ex
  | _ => none
def w_of_L5_ax : Go.Ev.Rd → AX
  | .next _ _ => .normal
  | .out j _ => axOf (w_of_L5_ex j)
def w_of_L5_S0 (n : Int)  (ds : List D) : Option Go.Ev.Rd := pullD (α := Int × Nat × (List D)) (some (.tup ds)) (fun d => ((D.vi (D.at d 0)), (D.ln (D.at d 1)), (D.lc (D.at d 1)))) (fun (s0, s4n, s4c) => .tup [iD s0, .list s4n s4c]) fun (s0, s4n, s4c) => ((if s0 > (0 : Int) then guardP ((∀ (u : D), u ∈ [dCell (.int .i64 (s0.tmod (1000000000 : Int)))] → cellD u) ∧ s4n * 1 ≤ s4c.length ∧ (s4n + (0 + 1)) * 8 ≤ 140737488355328 ∧ s4n + (0 + 1) ≤ 4611686018427387904) (some (.next 0 [iD (IntKind.i64.wrap (s0.tdiv (1000000000 : Int))), .list (s4n + (0 + 1)) (List.append (List.take (s4n * 1) s4c) [dCell (.int .i64 (s0.tmod (1000000000 : Int)))])])) else some (.out 0 [.list s4n s4c])))
def w_of_L5_S1 (n : Int)  (ds : List D) : Option Go.Ev.Rd := pullD (α := Int) (some (.tup ds)) (fun d => ((D.vi (D.at d 0)))) (fun s0 => .tup [iD s0, .one (.tuple #[])]) fun s0 => ((if s0 > (0 : Int) then some (.next 0 [iD (IntKind.i64.wrap (s0.tdiv (1000000000 : Int))), .list 1 [iD (s0.tmod (1000000000 : Int))]]) else some (.out 1 [.one (.tuple #[])])))
def w_of_L5_S (n : Int)  : Go.Ev.Rd → Option Go.Ev.Rd
  | .next 0 ds => w_of_L5_S0 n ds
  | .next 1 ds => w_of_L5_S1 n ds
  | _ => none
theorem w_of_L5_S_ok (n : Int)  : ∀ s_ t_, w_of_L5_S n s_ = some t_ → Step (ctx [92] w_of_sp) Tabs w_of_L5_A (stateOf (w_of_L5_gs n s_)) (stateOf (w_of_L5_gs n t_)) (w_of_L5_ax t_) ∧ EndOK w_of_L5_A.nx w_of_L5_A.low (w_of_L5_gs n) t_
  | .next 0 ds, t_, h => by
    have h_ : w_of_L5_S0 n ds = some t_ := h
    clear h
    unfold w_of_L5_S0 at h_
    obtain ⟨⟨s0, s4n, s4c⟩, e0, h0⟩ := pullD_elim h_
    clear h_
    obtain rfl := tup_inj e0
    by_cases b1_ : s0 > (0 : Int)
    · have h2_ := (if_pos b1_).symm.trans h0
      obtain ⟨f3_, h4_⟩ := guardP_elim h2_
      obtain rfl := Option.some.inj h4_
      exact ⟨step_pc 3000 (bT 1 []) [] [c_d b1_, c_F, c_f f3_, c_F] [] _ rfl (by kernel_rfl) (by kernel_rfl) (by kernel_rfl) (by kernel_rfl) (by kernel_rfl) (by kernel_rfl), trivial⟩
    have h2_ := (if_neg b1_).symm.trans h0
    obtain rfl := Option.some.inj h2_
    exact ⟨step_pc 3000 (bF 1 []) [] [c_n b1_] [] _ rfl (by kernel_rfl) (by kernel_rfl) (by kernel_rfl) (by kernel_rfl) (by kernel_rfl) (by kernel_rfl), by kernel_rfl, by kernel_rfl⟩
  | .next 1 ds, t_, h => by
    have h_ : w_of_L5_S1 n ds = some t_ := h
    clear h
    unfold w_of_L5_S1 at h_
    obtain ⟨s0, e0, h0⟩ := pullD_elim h_
    clear h_
    obtain rfl := tup_inj e0
    by_cases b1_ : s0 > (0 : Int)
    · have h2_ := (if_pos b1_).symm.trans h0
      obtain rfl := Option.some.inj h2_
      exact ⟨step_pc 3000 (bT 1 []) [] [c_d b1_, c_F, ⟨fact (0 < 0 + 1 ∧ (0 + 1) * 8 ≤ 140737488355328 ∧ 0 + 1 ≤ 4611686018427387904), true, fact_mk (by decide)⟩, c_F] [] _ rfl (by kernel_rfl) (by kernel_rfl) (by kernel_rfl) (by kernel_rfl) (by kernel_rfl) (by kernel_rfl), trivial⟩
    have h2_ := (if_neg b1_).symm.trans h0
    obtain rfl := Option.some.inj h2_
    exact ⟨step_pc 3000 (bF 1 []) [] [c_n b1_] [] _ rfl (by kernel_rfl) (by kernel_rfl) (by kernel_rfl) (by kernel_rfl) (by kernel_rfl) (by kernel_rfl), by kernel_rfl, by kernel_rfl⟩
  | .next (_ + 2) _, _, h => by cases h
  | .out _ _, _, h => by cases h
theorem w_of_L5_go (n : Int)  {q : Nat} {ds : List D} {j : Nat} {es : List D} (h : runR (w_of_L5_S n) (.next q ds) = some (.out j es)) : Runs (ctx [92] w_of_sp) Tabs w_of_L5_A (stateOf (w_of_L5_gs n (.next q ds))) (stateOf (w_of_L5_gs n (.out j es))) (w_of_L5_ax (.out j es)) ∧ (nxtOf (w_of_L5_gs n (.out j es)), lowGS (w_of_L5_gs n (.out j es))) = (w_of_L5_A.nx, w_of_L5_A.low) :=
  runs_of' (good true _ _) w_of_L5_ok (ax := w_of_L5_ax) (fun _ _ => rfl) (fun _ _ => axOf_end _) (w_of_L5_S_ok n) h
theorem w_of_L5_in0 (n : Int)  {es : List D} (h : runR (w_of_L5_S n) (.next 1 [iD ((IntKind.i64.wrap ((0 : Int) - n))), .one (.tuple #[])]) = some (.out 0 es)) : LoopC (loopAt Try.prog 92 0) (w_of_L5_E n) 1 noFrame w_of_x5_0 es :=
  have r := w_of_L5_go n h
  loopin_as rfl (loop_in (l := w_of_L5_A) (E := (w_of_L5_E n)) (S := stateOf (w_of_L5_gs n (.next 1 [iD ((IntKind.i64.wrap ((0 : Int) - n))), .one (.tuple #[])]))) (ns := nsOf (w_of_L5_gs n (.next 1 [iD ((IntKind.i64.wrap ((0 : Int) - n))), .one (.tuple #[])]))) w_of_L5_ok r.1 r.2 (by kernel_rfl) (by kernel_rfl) (by kernel_rfl) (by kernel_rfl))
theorem w_of_L5_in1 (n : Int)  {es : List D} (h : runR (w_of_L5_S n) (.next 1 [iD ((IntKind.i64.wrap ((0 : Int) - n))), .one (.tuple #[])]) = some (.out 1 es)) : LoopC (loopAt Try.prog 92 0) (w_of_L5_E n) 1 noFrame w_of_x5_1 es :=
  have r := w_of_L5_go n h
  loopin_as rfl (loop_in (l := w_of_L5_A) (E := (w_of_L5_E n)) (S := stateOf (w_of_L5_gs n (.next 1 [iD ((IntKind.i64.wrap ((0 : Int) - n))), .one (.tuple #[])]))) (ns := nsOf (w_of_L5_gs n (.next 1 [iD ((IntKind.i64.wrap ((0 : Int) - n))), .one (.tuple #[])]))) w_of_L5_ok r.1 r.2 (by kernel_rfl) (by kernel_rfl) (by kernel_rfl) (by kernel_rfl))
def w_of_M (n : Int) : Option D := (if n < (0 : Int) then bindL (runR (w_of_L5_S n) (.next 1 [iD ((IntKind.i64.wrap ((0 : Int) - n))), .one (.tuple #[])])) fun j ds => (if j = 0 then pullD (α := Nat × (List D)) (some (.tup ds)) (fun d => ((D.ln (D.at d 0)), (D.lc (D.at d 0)))) (fun (k0, c1) => .tup [.list k0 c1]) fun (k0, c1) => (guardP ((0 + k0) * 1 ≤ c1.length ∧ 0 < 1) (pullD (α := Int × Nat × (List D)) (m_110 [iD (-1 : Int), .list k0 c1]) (fun d => ((D.vi (D.at d 0)), (D.ln (D.at d 1)), (D.lc (D.at d 1)))) (fun (r2, k3, c4) => .agg [iD r2, .list k3 c4]) fun (r2, k3, c4) => (some (.agg [iD r2, .list k3 c4])))) else if j = 1 then pullD (some (.tup ds)) (fun _ => ()) (fun _ => .tup [.one (.tuple #[])]) fun _ => (pullD (α := Int × Nat × (List D)) (m_110 [iD (-1 : Int), .list 0 []]) (fun d => ((D.vi (D.at d 0)), (D.ln (D.at d 1)), (D.lc (D.at d 1)))) (fun (r5, k6, c7) => .agg [iD r5, .list k6 c7]) fun (r5, k6, c7) => (some (.agg [iD r5, .list k6 c7]))) else none) else bindL (runR (w_of_L5_1_S n) (.next 1 [iD n, .one (.tuple #[])])) fun j ds => (if j = 0 then pullD (α := Nat × (List D)) (some (.tup ds)) (fun d => ((D.ln (D.at d 0)), (D.lc (D.at d 0)))) (fun (k8, c9) => .tup [.list k8 c9]) fun (k8, c9) => (guardP ((0 + k8) * 1 ≤ c9.length ∧ 0 < 1) (pullD (α := Int × Nat × (List D)) (m_110 [iD (1 : Int), .list k8 c9]) (fun d => ((D.vi (D.at d 0)), (D.ln (D.at d 1)), (D.lc (D.at d 1)))) (fun (r10, k11, c12) => .agg [iD r10, .list k11 c12]) fun (r10, k11, c12) => (some (.agg [iD r10, .list k11 c12])))) else if j = 1 then pullD (some (.tup ds)) (fun _ => ()) (fun _ => .tup [.one (.tuple #[])]) fun _ => (pullD (α := Int × Nat × (List D)) (m_110 [iD (1 : Int), .list 0 []]) (fun d => ((D.vi (D.at d 0)), (D.ln (D.at d 1)), (D.lc (D.at d 1)))) (fun (r13, k14, c15) => .agg [iD r13, .list k14 c15]) fun (r13, k14, c15) => (some (.agg [iD r13, .list k14 c15]))) else none))
theorem w_of_M_ok (n : Int) {r : D} (h : w_of_M n = some r) : Con 92 [iD n] r := by
  unfold w_of_M at h
  by_cases b1_ : n < (0 : Int)
  · have h2_ := (if_pos b1_).symm.trans h
    obtain ⟨j, ds, e3_, h4_⟩ := bindL_elim h2_
    by_cases j5_ : j = 0
    · have h8_ := (if_pos j5_).symm.trans h4_
      clear h4_
      subst j5_
      obtain ⟨⟨k0, c1⟩, e6_, h9_⟩ := pullD_elim h8_
      clear h8_
      obtain rfl := tup_inj e6_
      have k7_ := w_of_L5_in0 n e3_
      obtain ⟨f10_, h11_⟩ := guardP_elim h9_
      obtain ⟨⟨r2, k3, c4⟩, f12_, h13_⟩ := pullD_elim h11_
      replace f12_ := m_110_ok f12_
      obtain rfl := Option.some.inj h13_
      exact con_pc (op := true) (I := [92]) (sp := w_of_sp) 3000 (bT 1 []) [.tup [iD (Int.ofNat 0), .list k0 c1], .agg [iD r2, .list k3 c4]] [c_d b1_, c_f f10_] [k_l k7_ [] [.tup [iD (Int.ofNat 0), .list k0 c1], .agg [iD r2, .list k3 c4]] [.agg [iD r2, .list k3 c4]], k_c f12_] (by kernel_rfl)
    have h14_ := (if_neg j5_).symm.trans h4_
    clear h4_
    by_cases j15_ : j = 1
    · have h18_ := (if_pos j15_).symm.trans h14_
      clear h14_
      subst j15_
      obtain ⟨⟨⟩, e16_, h19_⟩ := pullD_elim h18_
      clear h18_
      obtain rfl := tup_inj e16_
      have k17_ := w_of_L5_in1 n e3_
      obtain ⟨⟨r5, k6, c7⟩, f20_, h21_⟩ := pullD_elim h19_
      replace f20_ := m_110_ok f20_
      obtain rfl := Option.some.inj h21_
      exact con_pc (op := true) (I := [92]) (sp := w_of_sp) 3000 (bT 1 []) [.tup [iD (Int.ofNat 1), .one (.tuple #[])], .agg [iD r5, .list k6 c7]] [c_d b1_] [k_l k17_ [] [.tup [iD (Int.ofNat 1), .one (.tuple #[])], .agg [iD r5, .list k6 c7]] [.agg [iD r5, .list k6 c7]], k_c f20_] (by kernel_rfl)
    have h22_ := (if_neg j15_).symm.trans h14_
    clear h14_
    cases h22_
  have h2_ := (if_neg b1_).symm.trans h
  obtain ⟨j, ds, e23_, h24_⟩ := bindL_elim h2_
  by_cases j25_ : j = 0
  · have h28_ := (if_pos j25_).symm.trans h24_
    clear h24_
    subst j25_
    obtain ⟨⟨k8, c9⟩, e26_, h29_⟩ := pullD_elim h28_
    clear h28_
    obtain rfl := tup_inj e26_
    have k27_ := w_of_L5_1_in0 n e23_
    obtain ⟨f30_, h31_⟩ := guardP_elim h29_
    obtain ⟨⟨r10, k11, c12⟩, f32_, h33_⟩ := pullD_elim h31_
    replace f32_ := m_110_ok f32_
    obtain rfl := Option.some.inj h33_
    exact con_pc (op := true) (I := [92]) (sp := w_of_sp) 3000 (bF 1 []) [.tup [iD (Int.ofNat 0), .list k8 c9], .agg [iD r10, .list k11 c12]] [c_n b1_, c_f f30_] [k_l k27_ [] [.tup [iD (Int.ofNat 0), .list k8 c9], .agg [iD r10, .list k11 c12]] [.agg [iD r10, .list k11 c12]], k_c f32_] (by kernel_rfl)
  have h34_ := (if_neg j25_).symm.trans h24_
  clear h24_
  by_cases j35_ : j = 1
  · have h38_ := (if_pos j35_).symm.trans h34_
    clear h34_
    subst j35_
    obtain ⟨⟨⟩, e36_, h39_⟩ := pullD_elim h38_
    clear h38_
    obtain rfl := tup_inj e36_
    have k37_ := w_of_L5_1_in1 n e23_
    obtain ⟨⟨r13, k14, c15⟩, f40_, h41_⟩ := pullD_elim h39_
    replace f40_ := m_110_ok f40_
    obtain rfl := Option.some.inj h41_
    exact con_pc (op := true) (I := [92]) (sp := w_of_sp) 3000 (bF 1 []) [.tup [iD (Int.ofNat 1), .one (.tuple #[])], .agg [iD r13, .list k14 c15]] [c_n b1_] [k_l k37_ [] [.tup [iD (Int.ofNat 1), .one (.tuple #[])], .agg [iD r13, .list k14 c15]] [.agg [iD r13, .list k14 c15]], k_c f40_] (by kernel_rfl)
  have h42_ := (if_neg j35_).symm.trans h34_
  clear h34_
  cases h42_
def m_92 (ds : List D) : Option D := pullD (α := Int) (some (.tup ds)) (fun d => ((D.vi (D.at d 0)))) (fun n => .tup [iD n]) fun n => w_of_M n
theorem m_92_ok {ds : List D} {r : D} (h : m_92 ds = some r) : Con 92 ds r := by
  unfold m_92 at h
  obtain ⟨n, e0, h0⟩ := pullD_elim h
  obtain rfl := tup_inj e0
  exact w_of_M_ok n h0
theorem m_92_eq (n : Int) : m_92 [iD n] = w_of_M n := pullD_some n rfl rfl
def w_cmpDigits_x6_0 : LExit := ⟨some 0, [], (4 :: (5 :: (List.range' 19 22)))⟩
def w_cmpDigits_x6_1 : LExit := ⟨none, [.val 4], (5 :: (List.range' 19 22))⟩
def w_cmpDigits_sp : List LSpec := [⟨123, 6, [w_cmpDigits_x6_0, w_cmpDigits_x6_1]⟩]
def w_cmpDigits_L6_E (ka : Nat) (ca : List D) (kb : Nat) (cb : List D)  : List AV × AHeap := ([.dsl 0, .dsl 1, .pure (.tuple #[]), .pure (.tuple #[]), .pure (.int .i64 (0 : Int)), .pure (.int .i64 (IntKind.i64.wrap ((ka : Int) - (1 : Int)))), .dsl 0, .pure (.int .i64 (ka : Int)), .dsl 1, .pure (.int .i64 (kb : Int)), .pure (.bool ((ka : Int) != (kb : Int))), .pure (.tuple #[]), .pure (.tuple #[]), .pure (.tuple #[]), .pure (.tuple #[]), .pure (.tuple #[]), .dsl 0, .pure (.int .i64 (ka : Int)), .pure (.int .i64 (IntKind.i64.wrap ((ka : Int) - (1 : Int)))), .pure (.tuple #[]), .pure (.tuple #[]), .pure (.tuple #[]), .pure (.tuple #[]), .pure (.tuple #[]), .pure (.tuple #[]), .pure (.tuple #[]), .pure (.tuple #[]), .pure (.tuple #[]), .pure (.tuple #[]), .pure (.tuple #[]), .pure (.tuple #[]), .pure (.tuple #[]), .pure (.tuple #[]), .pure (.tuple #[]), .pure (.tuple #[]), .pure (.tuple #[]), .pure (.tuple #[]), .pure (.tuple #[]), .pure (.tuple #[]), .pure (.tuple #[]), .pure (.tuple #[])], [(1, { cells := [], opn := none, kind := .deep kb cb }), (0, { cells := [], opn := none, kind := .deep ka ca })])
def w_cmpDigits_L6_A : LoopAt := ⟨123, loopAt Try.prog 123 0, 2, 26, 2, noFrame⟩
theorem w_cmpDigits_L6_ok : (w_cmpDigits_L6_A).OK := ⟨by show 2 ≤ 26; decide, by show 2 ≤ 2; decide, by kernel_rfl, rfl⟩
def w_cmpDigits_L6_gs (ka : Nat) (ca : List D) (kb : Nat) (cb : List D)  : Go.Ev.Rd → Option GS
  | .next 0 ds => ghost [.val 5] (4 :: (List.range' 19 22)) (w_cmpDigits_L6_E ka ca kb cb).1 (w_cmpDigits_L6_E ka ca kb cb).2 2 ds
  | .out 0 ds => ghost w_cmpDigits_x6_0.live w_cmpDigits_x6_0.junk (w_cmpDigits_L6_E ka ca kb cb).1 (w_cmpDigits_L6_E ka ca kb cb).2 2 ds
  | .out 1 ds => ghost w_cmpDigits_x6_1.live w_cmpDigits_x6_1.junk (w_cmpDigits_L6_E ka ca kb cb).1 (w_cmpDigits_L6_E ka ca kb cb).2 2 ds
  | _ => none
def w_cmpDigits_L6_ex : Nat → Option Nat
  | 0 => w_cmpDigits_x6_0.ex
  | 1 => w_cmpDigits_x6_1.ex
  | _ => none
def w_cmpDigits_L6_ax : Go.Ev.Rd → AX
  | .next _ _ => .normal
  | .out j _ => axOf (w_cmpDigits_L6_ex j)
def w_cmpDigits_L6_S0 (ka : Nat) (ca : List D) (kb : Nat) (cb : List D)  (ds : List D) : Option Go.Ev.Rd := pullD (α := Int) (some (.tup ds)) (fun d => ((D.vi (D.at d 0)))) (fun s5 => .tup [iD s5]) fun s5 => ((if s5 ≥ (0 : Int) then guardP ((0 : Int) ≤ s5 ∧ s5.toNat < ka) (pullD (α := Int) (readD ca (s5.toNat * 1) 1 false) (fun d => ((D.vi d))) (fun v0 => iD v0) fun v0 => (guardP ((0 : Int) ≤ s5 ∧ s5.toNat < kb) (pullD (α := Int) (readD cb (s5.toNat * 1) 1 false) (fun d => ((D.vi d))) (fun v1 => iD v1) fun v1 => ((if v0 < v1 then some (.out 1 [iD (-1 : Int)]) else pullD (α := Int) (readD ca (s5.toNat * 1) 1 false) (fun d => ((D.vi d))) (fun v2 => iD v2) fun v2 => (pullD (α := Int) (readD cb (s5.toNat * 1) 1 false) (fun d => ((D.vi d))) (fun v3 => iD v3) fun v3 => ((if v2 > v3 then some (.out 1 [iD (1 : Int)]) else some (.next 0 [iD (IntKind.i64.wrap (s5 - (1 : Int)))]))))))))) else some (.out 0 [])))
def w_cmpDigits_L6_S (ka : Nat) (ca : List D) (kb : Nat) (cb : List D)  : Go.Ev.Rd → Option Go.Ev.Rd
  | .next 0 ds => w_cmpDigits_L6_S0 ka ca kb cb ds
  | _ => none
theorem w_cmpDigits_L6_S_ok (ka : Nat) (ca : List D) (kb : Nat) (cb : List D)  : ∀ s_ t_, w_cmpDigits_L6_S ka ca kb cb s_ = some t_ → Step (ctx [123] w_cmpDigits_sp) Tabs w_cmpDigits_L6_A (stateOf (w_cmpDigits_L6_gs ka ca kb cb s_)) (stateOf (w_cmpDigits_L6_gs ka ca kb cb t_)) (w_cmpDigits_L6_ax t_) ∧ EndOK w_cmpDigits_L6_A.nx w_cmpDigits_L6_A.low (w_cmpDigits_L6_gs ka ca kb cb) t_
  | .next 0 ds, t_, h => by
    have h_ : w_cmpDigits_L6_S0 ka ca kb cb ds = some t_ := h
    clear h
    unfold w_cmpDigits_L6_S0 at h_
    obtain ⟨s5, e0, h0⟩ := pullD_elim h_
    clear h_
    obtain rfl := tup_inj e0
    by_cases b1_ : s5 ≥ (0 : Int)
    · have h2_ := (if_pos b1_).symm.trans h0
      obtain ⟨f3_, h4_⟩ := guardP_elim h2_
      obtain ⟨v0, f5_, h6_⟩ := pullD_elim h4_
      replace f5_ := readD_elim f5_
      obtain ⟨f7_, h8_⟩ := guardP_elim h6_
      obtain ⟨v1, f9_, h10_⟩ := pullD_elim h8_
      replace f9_ := readD_elim f9_
      by_cases b11_ : v0 < v1
      · have h12_ := (if_pos b11_).symm.trans h10_
        obtain rfl := Option.some.inj h12_
        exact ⟨step_pc 3000 (bT 2 []) [iD v0, iD v1] [c_d b1_, c_f f3_, c_f f5_, c_f f7_, c_f f9_, c_d b11_] [] _ rfl (by kernel_rfl) (by kernel_rfl) (by kernel_rfl) (by kernel_rfl) (by kernel_rfl) (by kernel_rfl), by kernel_rfl, by kernel_rfl⟩
      have h12_ := (if_neg b11_).symm.trans h10_
      obtain ⟨v2, f13_, h14_⟩ := pullD_elim h12_
      replace f13_ := readD_elim f13_
      obtain ⟨v3, f15_, h16_⟩ := pullD_elim h14_
      replace f15_ := readD_elim f15_
      by_cases b17_ : v2 > v3
      · have h18_ := (if_pos b17_).symm.trans h16_
        obtain rfl := Option.some.inj h18_
        exact ⟨step_pc 3000 (bT 1 (bF 1 (bT 1 []))) [iD v0, iD v1, iD v2, iD v3] [c_d b1_, c_f f3_, c_f f5_, c_f f7_, c_f f9_, c_n b11_, c_f f3_, c_f f13_, c_f f7_, c_f f15_, c_d b17_] [] _ rfl (by kernel_rfl) (by kernel_rfl) (by kernel_rfl) (by kernel_rfl) (by kernel_rfl) (by kernel_rfl), by kernel_rfl, by kernel_rfl⟩
      have h18_ := (if_neg b17_).symm.trans h16_
      obtain rfl := Option.some.inj h18_
      exact ⟨step_pc 3000 (bT 1 (bF 2 [])) [iD v0, iD v1, iD v2, iD v3] [c_d b1_, c_f f3_, c_f f5_, c_f f7_, c_f f9_, c_n b11_, c_f f3_, c_f f13_, c_f f7_, c_f f15_, c_n b17_] [] _ rfl (by kernel_rfl) (by kernel_rfl) (by kernel_rfl) (by kernel_rfl) (by kernel_rfl) (by kernel_rfl), trivial⟩
    have h2_ := (if_neg b1_).symm.trans h0
    obtain rfl := Option.some.inj h2_
    exact ⟨step_pc 3000 (bF 1 []) [] [c_n b1_] [] _ rfl (by kernel_rfl) (by kernel_rfl) (by kernel_rfl) (by kernel_rfl) (by kernel_rfl) (by kernel_rfl), by kernel_rfl, by kernel_rfl⟩
  | .next (_ + 1) _, _, h => by cases h
  | .out _ _, _, h => by cases h
theorem w_cmpDigits_L6_go (ka : Nat) (ca : List D) (kb : Nat) (cb : List D)  {q : Nat} {ds : List D} {j : Nat} {es : List D} (h : runR (w_cmpDigits_L6_S ka ca kb cb) (.next q ds) = some (.out j es)) : Runs (ctx [123] w_cmpDigits_sp) Tabs w_cmpDigits_L6_A (stateOf (w_cmpDigits_L6_gs ka ca kb cb (.next q ds))) (stateOf (w_cmpDigits_L6_gs ka ca kb cb (.out j es))) (w_cmpDigits_L6_ax (.out j es)) ∧ (nxtOf (w_cmpDigits_L6_gs ka ca kb cb (.out j es)), lowGS (w_cmpDigits_L6_gs ka ca kb cb (.out j es))) = (w_cmpDigits_L6_A.nx, w_cmpDigits_L6_A.low) :=
  runs_of' (good true _ _) w_cmpDigits_L6_ok (ax := w_cmpDigits_L6_ax) (fun _ _ => rfl) (fun _ _ => axOf_end _) (w_cmpDigits_L6_S_ok ka ca kb cb) h
theorem w_cmpDigits_L6_in0 (ka : Nat) (ca : List D) (kb : Nat) (cb : List D)  {es : List D} (h : runR (w_cmpDigits_L6_S ka ca kb cb) (.next 0 [iD ((IntKind.i64.wrap ((ka : Int) - (1 : Int))))]) = some (.out 0 es)) : LoopC (loopAt Try.prog 123 0) (w_cmpDigits_L6_E ka ca kb cb) 2 noFrame w_cmpDigits_x6_0 es :=
  have r := w_cmpDigits_L6_go ka ca kb cb h
  loopin_as rfl (loop_in (l := w_cmpDigits_L6_A) (E := (w_cmpDigits_L6_E ka ca kb cb)) (S := stateOf (w_cmpDigits_L6_gs ka ca kb cb (.next 0 [iD ((IntKind.i64.wrap ((ka : Int) - (1 : Int))))]))) (ns := nsOf (w_cmpDigits_L6_gs ka ca kb cb (.next 0 [iD ((IntKind.i64.wrap ((ka : Int) - (1 : Int))))]))) w_cmpDigits_L6_ok r.1 r.2 (by kernel_rfl) (by kernel_rfl) (by kernel_rfl) (by kernel_rfl))
theorem w_cmpDigits_L6_in1 (ka : Nat) (ca : List D) (kb : Nat) (cb : List D)  {es : List D} (h : runR (w_cmpDigits_L6_S ka ca kb cb) (.next 0 [iD ((IntKind.i64.wrap ((ka : Int) - (1 : Int))))]) = some (.out 1 es)) : LoopC (loopAt Try.prog 123 0) (w_cmpDigits_L6_E ka ca kb cb) 2 noFrame w_cmpDigits_x6_1 es :=
  have r := w_cmpDigits_L6_go ka ca kb cb h
  loopin_as rfl (loop_in (l := w_cmpDigits_L6_A) (E := (w_cmpDigits_L6_E ka ca kb cb)) (S := stateOf (w_cmpDigits_L6_gs ka ca kb cb (.next 0 [iD ((IntKind.i64.wrap ((ka : Int) - (1 : Int))))]))) (ns := nsOf (w_cmpDigits_L6_gs ka ca kb cb (.next 0 [iD ((IntKind.i64.wrap ((ka : Int) - (1 : Int))))]))) w_cmpDigits_L6_ok r.1 r.2 (by kernel_rfl) (by kernel_rfl) (by kernel_rfl) (by kernel_rfl))
def w_cmpDigits_M (ka : Nat) (ca : List D) (kb : Nat) (cb : List D) : Option D := (if (ka : Int) ≠ (kb : Int) then (if (ka : Int) < (kb : Int) then some (iD (-1 : Int)) else some (iD (1 : Int))) else bindL (runR (w_cmpDigits_L6_S ka ca kb cb) (.next 0 [iD ((IntKind.i64.wrap ((ka : Int) - (1 : Int))))])) fun j ds => (if j = 0 then pullD (some (.tup ds)) (fun _ => ()) (fun _ => .tup []) fun _ => (some (iD (0 : Int))) else if j = 1 then pullD (α := Int) (some (.tup ds)) (fun d => ((D.vi (D.at d 0)))) (fun l0 => .tup [iD l0]) fun l0 => (some (iD l0)) else none))
theorem w_cmpDigits_M_ok (ka : Nat) (ca : List D) (kb : Nat) (cb : List D) {r : D} (h : w_cmpDigits_M ka ca kb cb = some r) : Con 123 [.list ka ca, .list kb cb] r := by
  unfold w_cmpDigits_M at h
  by_cases b1_ : (ka : Int) ≠ (kb : Int)
  · have h2_ := (if_pos b1_).symm.trans h
    by_cases b3_ : (ka : Int) < (kb : Int)
    · have h4_ := (if_pos b3_).symm.trans h2_
      obtain rfl := Option.some.inj h4_
      exact con_pc (op := true) (I := [123]) (sp := w_cmpDigits_sp) 3000 (bT 2 []) [] [c_b b1_, c_d b3_] [] (by kernel_rfl)
    have h4_ := (if_neg b3_).symm.trans h2_
    obtain rfl := Option.some.inj h4_
    exact con_pc (op := true) (I := [123]) (sp := w_cmpDigits_sp) 3000 (bT 1 (bF 1 [])) [] [c_b b1_, c_n b3_] [] (by kernel_rfl)
  have h2_ := (if_neg b1_).symm.trans h
  have b5_ : (ka : Int) = (kb : Int) := by first | exact b1_ | simpa using b1_
  obtain ⟨j, ds, e6_, h7_⟩ := bindL_elim h2_
  by_cases j8_ : j = 0
  · have h11_ := (if_pos j8_).symm.trans h7_
    clear h7_
    subst j8_
    obtain ⟨⟨⟩, e9_, h12_⟩ := pullD_elim h11_
    clear h11_
    obtain rfl := tup_inj e9_
    have k10_ := w_cmpDigits_L6_in0 ka ca kb cb e6_
    obtain rfl := Option.some.inj h12_
    exact con_pc (op := true) (I := [123]) (sp := w_cmpDigits_sp) 3000 (bF 1 []) [.tup [iD (Int.ofNat 0)]] [c_bn b5_] [k_l k10_ [] [.tup [iD (Int.ofNat 0)]] []] (by kernel_rfl)
  have h13_ := (if_neg j8_).symm.trans h7_
  clear h7_
  by_cases j14_ : j = 1
  · have h17_ := (if_pos j14_).symm.trans h13_
    clear h13_
    subst j14_
    obtain ⟨l0, e15_, h18_⟩ := pullD_elim h17_
    clear h17_
    obtain rfl := tup_inj e15_
    have k16_ := w_cmpDigits_L6_in1 ka ca kb cb e6_
    obtain rfl := Option.some.inj h18_
    exact con_pc (op := true) (I := [123]) (sp := w_cmpDigits_sp) 3000 (bF 1 []) [.tup [iD (Int.ofNat 1), iD l0]] [c_bn b5_] [k_l k16_ [] [.tup [iD (Int.ofNat 1), iD l0]] []] (by kernel_rfl)
  have h19_ := (if_neg j14_).symm.trans h13_
  clear h13_
  cases h19_
def m_123 (ds : List D) : Option D := pullD (α := Nat × (List D) × Nat × (List D)) (some (.tup ds)) (fun d => ((D.ln (D.at d 0)), (D.lc (D.at d 0)), (D.ln (D.at d 1)), (D.lc (D.at d 1)))) (fun (ka, ca, kb, cb) => .tup [.list ka ca, .list kb cb]) fun (ka, ca, kb, cb) => w_cmpDigits_M ka ca kb cb
theorem m_123_ok {ds : List D} {r : D} (h : m_123 ds = some r) : Con 123 ds r := by
  unfold m_123 at h
  obtain ⟨⟨ka, ca, kb, cb⟩, e0, h0⟩ := pullD_elim h
  obtain rfl := tup_inj e0
  exact w_cmpDigits_M_ok ka ca kb cb h0
theorem m_123_eq (ka : Nat) (ca : List D) (kb : Nat) (cb : List D) : m_123 [.list ka ca, .list kb cb] = w_cmpDigits_M ka ca kb cb := pullD_some (ka, ca, kb, cb) rfl rfl
def w_digit_sp : List LSpec := []
def w_digit_M (ka : Nat) (ca : List D) (i : Int) : Option D := (if i < (ka : Int) then guardP ((0 : Int) ≤ i ∧ i.toNat < ka) (pullD (α := Int) (readD ca (i.toNat * 1) 1 false) (fun d => ((D.vi d))) (fun v0 => iD v0) fun v0 => (some (iD v0))) else some (iD (0 : Int)))
theorem w_digit_M_ok (ka : Nat) (ca : List D) (i : Int) {r : D} (h : w_digit_M ka ca i = some r) : Con 126 [.list ka ca, iD i] r := by
  unfold w_digit_M at h
  by_cases b1_ : i < (ka : Int)
  · have h2_ := (if_pos b1_).symm.trans h
    obtain ⟨f3_, h4_⟩ := guardP_elim h2_
    obtain ⟨v0, f5_, h6_⟩ := pullD_elim h4_
    replace f5_ := readD_elim f5_
    obtain rfl := Option.some.inj h6_
    exact con_pc (op := true) (I := [126]) (sp := w_digit_sp) 3000 (bT 1 []) [iD v0] [c_d b1_, c_f f3_, c_f f5_] [] (by kernel_rfl)
  have h2_ := (if_neg b1_).symm.trans h
  obtain rfl := Option.some.inj h2_
  exact con_pc (op := true) (I := [126]) (sp := w_digit_sp) 3000 (bF 1 []) [] [c_n b1_] [] (by kernel_rfl)
def m_126 (ds : List D) : Option D := pullD (α := Nat × (List D) × Int) (some (.tup ds)) (fun d => ((D.ln (D.at d 0)), (D.lc (D.at d 0)), (D.vi (D.at d 1)))) (fun (ka, ca, i) => .tup [.list ka ca, iD i]) fun (ka, ca, i) => w_digit_M ka ca i
theorem m_126_ok {ds : List D} {r : D} (h : m_126 ds = some r) : Con 126 ds r := by
  unfold m_126 at h
  obtain ⟨⟨ka, ca, i⟩, e0, h0⟩ := pullD_elim h
  obtain rfl := tup_inj e0
  exact w_digit_M_ok ka ca i h0
theorem m_126_eq (ka : Nat) (ca : List D) (i : Int) : m_126 [.list ka ca, iD i] = w_digit_M ka ca i := pullD_some (ka, ca, i) rfl rfl
def w_addDigits_x4_0 : LExit := ⟨some 0, [.grow 5 1], (List.range' 6 35)⟩
def w_addDigits_x4_1 : LExit := ⟨some 0, [.nil 5], (List.range' 6 35)⟩
def w_addDigits_sp : List LSpec := [⟨127, 4, [w_addDigits_x4_0, w_addDigits_x4_1]⟩]
def w_addDigits_L4_E (ka : Nat) (ca : List D) (kb : Nat) (cb : List D)  : List AV × AHeap := ([.dsl 0, .dsl 1, .pure (.tuple #[]), .pure (.tuple #[]), .pure (.slice none 0 0), .pure (.slice none 0 0), .pure (.int .i64 (0 : Int)), .pure (.int .i64 (0 : Int)), .pure (.tuple #[]), .pure (.tuple #[]), .pure (.tuple #[]), .pure (.tuple #[]), .pure (.tuple #[]), .pure (.tuple #[]), .pure (.tuple #[]), .pure (.tuple #[]), .pure (.tuple #[]), .pure (.tuple #[]), .pure (.tuple #[]), .pure (.tuple #[]), .pure (.tuple #[]), .pure (.tuple #[]), .pure (.tuple #[]), .pure (.tuple #[]), .pure (.tuple #[]), .pure (.tuple #[]), .pure (.tuple #[]), .pure (.tuple #[]), .pure (.tuple #[]), .pure (.tuple #[]), .pure (.tuple #[]), .pure (.tuple #[]), .pure (.tuple #[]), .pure (.tuple #[]), .pure (.tuple #[]), .pure (.tuple #[]), .pure (.tuple #[]), .pure (.tuple #[]), .pure (.tuple #[]), .pure (.tuple #[]), .pure (.tuple #[]), .pure (.tuple #[])], [(1, { cells := [], opn := none, kind := .deep kb cb }), (0, { cells := [], opn := none, kind := .deep ka ca })])
def w_addDigits_L4_A : LoopAt := ⟨127, loopAt Try.prog 127 0, 2, 38, 2, noFrame⟩
theorem w_addDigits_L4_ok : (w_addDigits_L4_A).OK := ⟨by show 2 ≤ 38; decide, by show 2 ≤ 2; decide, by kernel_rfl, rfl⟩
def w_addDigits_L4_gs (ka : Nat) (ca : List D) (kb : Nat) (cb : List D)  : Go.Ev.Rd → Option GS
  | .next 0 ds => ghost [.grow 5 1, .val 6, .val 7] (List.range' 8 33) (w_addDigits_L4_E ka ca kb cb).1 (w_addDigits_L4_E ka ca kb cb).2 2 ds
  | .next 1 ds => ghost [.nil 5, .val 6, .val 7] (List.range' 8 33) (w_addDigits_L4_E ka ca kb cb).1 (w_addDigits_L4_E ka ca kb cb).2 2 ds
  | .out 0 ds => ghost w_addDigits_x4_0.live w_addDigits_x4_0.junk (w_addDigits_L4_E ka ca kb cb).1 (w_addDigits_L4_E ka ca kb cb).2 2 ds
  | .out 1 ds => ghost w_addDigits_x4_1.live w_addDigits_x4_1.junk (w_addDigits_L4_E ka ca kb cb).1 (w_addDigits_L4_E ka ca kb cb).2 2 ds
  | _ => none
def w_addDigits_L4_ex : Nat → Option Nat
  | 0 => w_addDigits_x4_0.ex
  | 1 => w_addDigits_x4_1.ex
  | _ => none
def w_addDigits_L4_ax : Go.Ev.Rd → AX
  | .next _ _ => .normal
  | .out j _ => axOf (w_addDigits_L4_ex j)
def w_addDigits_L4_S0 (ka : Nat) (ca : List D) (kb : Nat) (cb : List D)  (ds : List D) : Option Go.Ev.Rd := pullD (α := Nat × (List D) × Int × Int) (some (.tup ds)) (fun d => ((D.ln (D.at d 0)), (D.lc (D.at d 0)), (D.vi (D.at d 1)), (D.vi (D.at d 2)))) (fun (s5n, s5c, s6, s7) => .tup [.list s5n s5c, iD s6, iD s7]) fun (s5n, s5c, s6, s7) => ((if s7 < (ka : Int) then pullD (α := Int) (m_126 [.list ka ca, iD s7]) (fun d => ((D.vi d))) (fun r0 => iD r0) fun r0 => (pullD (α := Int) (m_126 [.list kb cb, iD s7]) (fun d => ((D.vi d))) (fun r1 => iD r1) fun r1 => (guardP ((∀ (u : D), u ∈ [dCell (.int .i64 ((IntKind.i64.wrap (IntKind.i64.wrap (r0 + r1) + s6)).tmod (1000000000 : Int)))] → cellD u) ∧ s5n * 1 ≤ s5c.length ∧ (s5n + (0 + 1)) * 8 ≤ 140737488355328 ∧ s5n + (0 + 1) ≤ 4611686018427387904) (some (.next 0 [.list (s5n + (0 + 1)) (List.append (List.take (s5n * 1) s5c) [dCell (.int .i64 ((IntKind.i64.wrap (IntKind.i64.wrap (r0 + r1) + s6)).tmod (1000000000 : Int)))]), iD (IntKind.i64.wrap ((IntKind.i64.wrap (IntKind.i64.wrap (r0 + r1) + s6)).tdiv (1000000000 : Int))), iD (IntKind.i64.wrap (s7 + (1 : Int)))])))) else (if s7 < (kb : Int) then pullD (α := Int) (m_126 [.list ka ca, iD s7]) (fun d => ((D.vi d))) (fun r2 => iD r2) fun r2 => (pullD (α := Int) (m_126 [.list kb cb, iD s7]) (fun d => ((D.vi d))) (fun r3 => iD r3) fun r3 => (guardP ((∀ (u : D), u ∈ [dCell (.int .i64 ((IntKind.i64.wrap (IntKind.i64.wrap (r2 + r3) + s6)).tmod (1000000000 : Int)))] → cellD u) ∧ s5n * 1 ≤ s5c.length ∧ (s5n + (0 + 1)) * 8 ≤ 140737488355328 ∧ s5n + (0 + 1) ≤ 4611686018427387904) (some (.next 0 [.list (s5n + (0 + 1)) (List.append (List.take (s5n * 1) s5c) [dCell (.int .i64 ((IntKind.i64.wrap (IntKind.i64.wrap (r2 + r3) + s6)).tmod (1000000000 : Int)))]), iD (IntKind.i64.wrap ((IntKind.i64.wrap (IntKind.i64.wrap (r2 + r3) + s6)).tdiv (1000000000 : Int))), iD (IntKind.i64.wrap (s7 + (1 : Int)))])))) else (if s6 > (0 : Int) then pullD (α := Int) (m_126 [.list ka ca, iD s7]) (fun d => ((D.vi d))) (fun r4 => iD r4) fun r4 => (pullD (α := Int) (m_126 [.list kb cb, iD s7]) (fun d => ((D.vi d))) (fun r5 => iD r5) fun r5 => (guardP ((∀ (u : D), u ∈ [dCell (.int .i64 ((IntKind.i64.wrap (IntKind.i64.wrap (r4 + r5) + s6)).tmod (1000000000 : Int)))] → cellD u) ∧ s5n * 1 ≤ s5c.length ∧ (s5n + (0 + 1)) * 8 ≤ 140737488355328 ∧ s5n + (0 + 1) ≤ 4611686018427387904) (some (.next 0 [.list (s5n + (0 + 1)) (List.append (List.take (s5n * 1) s5c) [dCell (.int .i64 ((IntKind.i64.wrap (IntKind.i64.wrap (r4 + r5) + s6)).tmod (1000000000 : Int)))]), iD (IntKind.i64.wrap ((IntKind.i64.wrap (IntKind.i64.wrap (r4 + r5) + s6)).tdiv (1000000000 : Int))), iD (IntKind.i64.wrap (s7 + (1 : Int)))])))) else some (.out 0 [.list s5n s5c])))))
def w_addDigits_L4_S1 (ka : Nat) (ca : List D) (kb : Nat) (cb : List D)  (ds : List D) : Option Go.Ev.Rd := pullD (α := Int × Int) (some (.tup ds)) (fun d => ((D.vi (D.at d 1)), (D.vi (D.at d 2)))) (fun (s6, s7) => .tup [.one (.tuple #[]), iD s6, iD s7]) fun (s6, s7) => ((if s7 < (ka : Int) then pullD (α := Int) (m_126 [.list ka ca, iD s7]) (fun d => ((D.vi d))) (fun r0 => iD r0) fun r0 => (pullD (α := Int) (m_126 [.list kb cb, iD s7]) (fun d => ((D.vi d))) (fun r1 => iD r1) fun r1 => (some (.next 0 [.list 1 [iD ((IntKind.i64.wrap (IntKind.i64.wrap (r0 + r1) + s6)).tmod (1000000000 : Int))], iD (IntKind.i64.wrap ((IntKind.i64.wrap (IntKind.i64.wrap (r0 + r1) + s6)).tdiv (1000000000 : Int))), iD (IntKind.i64.wrap (s7 + (1 : Int)))]))) else (if s7 < (kb : Int) then pullD (α := Int) (m_126 [.list ka ca, iD s7]) (fun d => ((D.vi d))) (fun r2 => iD r2) fun r2 => (pullD (α := Int) (m_126 [.list kb cb, iD s7]) (fun d => ((D.vi d))) (fun r3 => iD r3) fun r3 => (some (.next 0 [.list 1 [iD ((IntKind.i64.wrap (IntKind.i64.wrap (r2 + r3) + s6)).tmod (1000000000 : Int))], iD (IntKind.i64.wrap ((IntKind.i64.wrap (IntKind.i64.wrap (r2 + r3) + s6)).tdiv (1000000000 : Int))), iD (IntKind.i64.wrap (s7 + (1 : Int)))]))) else (if s6 > (0 : Int) then pullD (α := Int) (m_126 [.list ka ca, iD s7]) (fun d => ((D.vi d))) (fun r4 => iD r4) fun r4 => (pullD (α := Int) (m_126 [.list kb cb, iD s7]) (fun d => ((D.vi d))) (fun r5 => iD r5) fun r5 => (some (.next 0 [.list 1 [iD ((IntKind.i64.wrap (IntKind.i64.wrap (r4 + r5) + s6)).tmod (1000000000 : Int))], iD (IntKind.i64.wrap ((IntKind.i64.wrap (IntKind.i64.wrap (r4 + r5) + s6)).tdiv (1000000000 : Int))), iD (IntKind.i64.wrap (s7 + (1 : Int)))]))) else some (.out 1 [.one (.tuple #[])])))))
def w_addDigits_L4_S (ka : Nat) (ca : List D) (kb : Nat) (cb : List D)  : Go.Ev.Rd → Option Go.Ev.Rd
  | .next 0 ds => w_addDigits_L4_S0 ka ca kb cb ds
  | .next 1 ds => w_addDigits_L4_S1 ka ca kb cb ds
  | _ => none
theorem w_addDigits_L4_S_ok (ka : Nat) (ca : List D) (kb : Nat) (cb : List D)  : ∀ s_ t_, w_addDigits_L4_S ka ca kb cb s_ = some t_ → Step (ctx [127] w_addDigits_sp) Tabs w_addDigits_L4_A (stateOf (w_addDigits_L4_gs ka ca kb cb s_)) (stateOf (w_addDigits_L4_gs ka ca kb cb t_)) (w_addDigits_L4_ax t_) ∧ EndOK w_addDigits_L4_A.nx w_addDigits_L4_A.low (w_addDigits_L4_gs ka ca kb cb) t_
  | .next 0 ds, t_, h => by
    have h_ : w_addDigits_L4_S0 ka ca kb cb ds = some t_ := h
    clear h
    unfold w_addDigits_L4_S0 at h_
    obtain ⟨⟨s5n, s5c, s6, s7⟩, e0, h0⟩ := pullD_elim h_
    clear h_
    obtain rfl := tup_inj e0
    by_cases b1_ : s7 < (ka : Int)
    · have h2_ := (if_pos b1_).symm.trans h0
      obtain ⟨r0, f3_, h4_⟩ := pullD_elim h2_
      replace f3_ := m_126_ok f3_
      obtain ⟨r1, f5_, h6_⟩ := pullD_elim h4_
      replace f5_ := m_126_ok f5_
      obtain ⟨f7_, h8_⟩ := guardP_elim h6_
      obtain rfl := Option.some.inj h8_
      exact ⟨step_pc 3000 (bT 9 []) [iD r0, iD r1] [c_d b1_, c_d b1_, c_d b1_, c_d b1_, c_d b1_, c_T, c_T, c_T, c_T, c_F, c_f f7_, c_F] [k_c f3_, k_c f5_] _ rfl (by kernel_rfl) (by kernel_rfl) (by kernel_rfl) (by kernel_rfl) (by kernel_rfl) (by kernel_rfl), trivial⟩
    have h2_ := (if_neg b1_).symm.trans h0
    by_cases b9_ : s7 < (kb : Int)
    · have h10_ := (if_pos b9_).symm.trans h2_
      obtain ⟨r2, f11_, h12_⟩ := pullD_elim h10_
      replace f11_ := m_126_ok f11_
      obtain ⟨r3, f13_, h14_⟩ := pullD_elim h12_
      replace f13_ := m_126_ok f13_
      obtain ⟨f15_, h16_⟩ := guardP_elim h14_
      obtain rfl := Option.some.inj h16_
      exact ⟨step_pc 3000 (bF 5 (bT 4 [])) [iD r2, iD r3] [c_n b1_, c_n b1_, c_n b1_, c_n b1_, c_n b1_, c_d b9_, c_d b9_, c_d b9_, c_T, c_F, c_f f15_, c_F] [k_c f11_, k_c f13_] _ rfl (by kernel_rfl) (by kernel_rfl) (by kernel_rfl) (by kernel_rfl) (by kernel_rfl) (by kernel_rfl), trivial⟩
    have h10_ := (if_neg b9_).symm.trans h2_
    by_cases b17_ : s6 > (0 : Int)
    · have h18_ := (if_pos b17_).symm.trans h10_
      obtain ⟨r4, f19_, h20_⟩ := pullD_elim h18_
      replace f19_ := m_126_ok f19_
      obtain ⟨r5, f21_, h22_⟩ := pullD_elim h20_
      replace f21_ := m_126_ok f21_
      obtain ⟨f23_, h24_⟩ := guardP_elim h22_
      obtain rfl := Option.some.inj h24_
      exact ⟨step_pc 3000 (bF 8 (bT 1 [])) [iD r4, iD r5] [c_n b1_, c_n b1_, c_n b1_, c_n b1_, c_n b1_, c_n b9_, c_n b9_, c_n b9_, c_d b17_, c_F, c_f f23_, c_F] [k_c f19_, k_c f21_] _ rfl (by kernel_rfl) (by kernel_rfl) (by kernel_rfl) (by kernel_rfl) (by kernel_rfl) (by kernel_rfl), trivial⟩
    have h18_ := (if_neg b17_).symm.trans h10_
    obtain rfl := Option.some.inj h18_
    exact ⟨step_pc 3000 (bF 9 []) [] [c_n b1_, c_n b1_, c_n b1_, c_n b1_, c_n b1_, c_n b9_, c_n b9_, c_n b9_, c_n b17_] [] _ rfl (by kernel_rfl) (by kernel_rfl) (by kernel_rfl) (by kernel_rfl) (by kernel_rfl) (by kernel_rfl), by kernel_rfl, by kernel_rfl⟩
  | .next 1 ds, t_, h => by
    have h_ : w_addDigits_L4_S1 ka ca kb cb ds = some t_ := h
    clear h
    unfold w_addDigits_L4_S1 at h_
    obtain ⟨⟨s6, s7⟩, e0, h0⟩ := pullD_elim h_
    clear h_
    obtain rfl := tup_inj e0
    by_cases b1_ : s7 < (ka : Int)
    · have h2_ := (if_pos b1_).symm.trans h0
      obtain ⟨r0, f3_, h4_⟩ := pullD_elim h2_
      replace f3_ := m_126_ok f3_
      obtain ⟨r1, f5_, h6_⟩ := pullD_elim h4_
      replace f5_ := m_126_ok f5_
      obtain rfl := Option.some.inj h6_
      exact ⟨step_pc 3000 (bT 9 []) [iD r0, iD r1] [c_d b1_, c_d b1_, c_d b1_, c_d b1_, c_d b1_, c_T, c_T, c_T, c_T, c_F, ⟨fact (0 < 0 + 1 ∧ (0 + 1) * 8 ≤ 140737488355328 ∧ 0 + 1 ≤ 4611686018427387904), true, fact_mk (by decide)⟩, c_F] [k_c f3_, k_c f5_] _ rfl (by kernel_rfl) (by kernel_rfl) (by kernel_rfl) (by kernel_rfl) (by kernel_rfl) (by kernel_rfl), trivial⟩
    have h2_ := (if_neg b1_).symm.trans h0
    by_cases b7_ : s7 < (kb : Int)
    · have h8_ := (if_pos b7_).symm.trans h2_
      obtain ⟨r2, f9_, h10_⟩ := pullD_elim h8_
      replace f9_ := m_126_ok f9_
      obtain ⟨r3, f11_, h12_⟩ := pullD_elim h10_
      replace f11_ := m_126_ok f11_
      obtain rfl := Option.some.inj h12_
      exact ⟨step_pc 3000 (bF 5 (bT 4 [])) [iD r2, iD r3] [c_n b1_, c_n b1_, c_n b1_, c_n b1_, c_n b1_, c_d b7_, c_d b7_, c_d b7_, c_T, c_F, ⟨fact (0 < 0 + 1 ∧ (0 + 1) * 8 ≤ 140737488355328 ∧ 0 + 1 ≤ 4611686018427387904), true, fact_mk (by decide)⟩, c_F] [k_c f9_, k_c f11_] _ rfl (by kernel_rfl) (by kernel_rfl) (by kernel_rfl) (by kernel_rfl) (by kernel_rfl) (by kernel_rfl), trivial⟩
    have h8_ := (if_neg b7_).symm.trans h2_
    by_cases b13_ : s6 > (0 : Int)
    · have h14_ := (if_pos b13_).symm.trans h8_
      obtain ⟨r4, f15_, h16_⟩ := pullD_elim h14_
      replace f15_ := m_126_ok f15_
      obtain ⟨r5, f17_, h18_⟩ := pullD_elim h16_
      replace f17_ := m_126_ok f17_
      obtain rfl := Option.some.inj h18_
      exact ⟨step_pc 3000 (bF 8 (bT 1 [])) [iD r4, iD r5] [c_n b1_, c_n b1_, c_n b1_, c_n b1_, c_n b1_, c_n b7_, c_n b7_, c_n b7_, c_d b13_, c_F, ⟨fact (0 < 0 + 1 ∧ (0 + 1) * 8 ≤ 140737488355328 ∧ 0 + 1 ≤ 4611686018427387904), true, fact_mk (by decide)⟩, c_F] [k_c f15_, k_c f17_] _ rfl (by kernel_rfl) (by kernel_rfl) (by kernel_rfl) (by kernel_rfl) (by kernel_rfl) (by kernel_rfl), trivial⟩
    have h14_ := (if_neg b13_).symm.trans h8_
    obtain rfl := Option.some.inj h14_
    exact ⟨step_pc 3000 (bF 9 []) [] [c_n b1_, c_n b1_, c_n b1_, c_n b1_, c_n b1_, c_n b7_, c_n b7_, c_n b7_, c_n b13_] [] _ rfl (by kernel_rfl) (by kernel_rfl) (by kernel_rfl) (by kernel_rfl) (by kernel_rfl) (by kernel_rfl), by kernel_rfl, by kernel_rfl⟩
  | .next (_ + 2) _, _, h => by cases h
  | .out _ _, _, h => by cases h
theorem w_addDigits_L4_go (ka : Nat) (ca : List D) (kb : Nat) (cb : List D)  {q : Nat} {ds : List D} {j : Nat} {es : List D} (h : runR (w_addDigits_L4_S ka ca kb cb) (.next q ds) = some (.out j es)) : Runs (ctx [127] w_addDigits_sp) Tabs w_addDigits_L4_A (stateOf (w_addDigits_L4_gs ka ca kb cb (.next q ds))) (stateOf (w_addDigits_L4_gs ka ca kb cb (.out j es))) (w_addDigits_L4_ax (.out j es)) ∧ (nxtOf (w_addDigits_L4_gs ka ca kb cb (.out j es)), lowGS (w_addDigits_L4_gs ka ca kb cb (.out j es))) = (w_addDigits_L4_A.nx, w_addDigits_L4_A.low) :=
  runs_of' (good true _ _) w_addDigits_L4_ok (ax := w_addDigits_L4_ax) (fun _ _ => rfl) (fun _ _ => axOf_end _) (w_addDigits_L4_S_ok ka ca kb cb) h
theorem w_addDigits_L4_in0 (ka : Nat) (ca : List D) (kb : Nat) (cb : List D)  {es : List D} (h : runR (w_addDigits_L4_S ka ca kb cb) (.next 1 [.one (.tuple #[]), iD ((0 : Int)), iD ((0 : Int))]) = some (.out 0 es)) : LoopC (loopAt Try.prog 127 0) (w_addDigits_L4_E ka ca kb cb) 2 noFrame w_addDigits_x4_0 es :=
  have r := w_addDigits_L4_go ka ca kb cb h
  loopin_as rfl (loop_in (l := w_addDigits_L4_A) (E := (w_addDigits_L4_E ka ca kb cb)) (S := stateOf (w_addDigits_L4_gs ka ca kb cb (.next 1 [.one (.tuple #[]), iD ((0 : Int)), iD ((0 : Int))]))) (ns := nsOf (w_addDigits_L4_gs ka ca kb cb (.next 1 [.one (.tuple #[]), iD ((0 : Int)), iD ((0 : Int))]))) w_addDigits_L4_ok r.1 r.2 (by kernel_rfl) (by kernel_rfl) (by kernel_rfl) (by kernel_rfl))
theorem w_addDigits_L4_in1 (ka : Nat) (ca : List D) (kb : Nat) (cb : List D)  {es : List D} (h : runR (w_addDigits_L4_S ka ca kb cb) (.next 1 [.one (.tuple #[]), iD ((0 : Int)), iD ((0 : Int))]) = some (.out 1 es)) : LoopC (loopAt Try.prog 127 0) (w_addDigits_L4_E ka ca kb cb) 2 noFrame w_addDigits_x4_1 es :=
  have r := w_addDigits_L4_go ka ca kb cb h
  loopin_as rfl (loop_in (l := w_addDigits_L4_A) (E := (w_addDigits_L4_E ka ca kb cb)) (S := stateOf (w_addDigits_L4_gs ka ca kb cb (.next 1 [.one (.tuple #[]), iD ((0 : Int)), iD ((0 : Int))]))) (ns := nsOf (w_addDigits_L4_gs ka ca kb cb (.next 1 [.one (.tuple #[]), iD ((0 : Int)), iD ((0 : Int))]))) w_addDigits_L4_ok r.1 r.2 (by kernel_rfl) (by kernel_rfl) (by kernel_rfl) (by kernel_rfl))
def w_addDigits_M (ka : Nat) (ca : List D) (kb : Nat) (cb : List D) : Option D := bindL (runR (w_addDigits_L4_S ka ca kb cb) (.next 1 [.one (.tuple #[]), iD ((0 : Int)), iD ((0 : Int))])) fun j ds => (if j = 0 then pullD (α := Nat × (List D)) (some (.tup ds)) (fun d => ((D.ln (D.at d 0)), (D.lc (D.at d 0)))) (fun (k0, c1) => .tup [.list k0 c1]) fun (k0, c1) => (guardP ((0 + k0) * 1 ≤ c1.length ∧ 0 < 1) (some (.list k0 c1))) else if j = 1 then pullD (some (.tup ds)) (fun _ => ()) (fun _ => .tup [.one (.tuple #[])]) fun _ => (some (.list 0 [])) else none)
theorem w_addDigits_M_ok (ka : Nat) (ca : List D) (kb : Nat) (cb : List D) {r : D} (h : w_addDigits_M ka ca kb cb = some r) : Con 127 [.list ka ca, .list kb cb] r := by
  unfold w_addDigits_M at h
  obtain ⟨j, ds, e1_, h2_⟩ := bindL_elim h
  by_cases j3_ : j = 0
  · have h6_ := (if_pos j3_).symm.trans h2_
    clear h2_
    subst j3_
    obtain ⟨⟨k0, c1⟩, e4_, h7_⟩ := pullD_elim h6_
    clear h6_
    obtain rfl := tup_inj e4_
    have k5_ := w_addDigits_L4_in0 ka ca kb cb e1_
    obtain ⟨f8_, h9_⟩ := guardP_elim h7_
    obtain rfl := Option.some.inj h9_
    exact con_pc (op := true) (I := [127]) (sp := w_addDigits_sp) 3000 [] [.tup [iD (Int.ofNat 0), .list k0 c1]] [c_f f8_] [k_l k5_ [] [.tup [iD (Int.ofNat 0), .list k0 c1]] []] (by kernel_rfl)
  have h10_ := (if_neg j3_).symm.trans h2_
  clear h2_
  by_cases j11_ : j = 1
  · have h14_ := (if_pos j11_).symm.trans h10_
    clear h10_
    subst j11_
    obtain ⟨⟨⟩, e12_, h15_⟩ := pullD_elim h14_
    clear h14_
    obtain rfl := tup_inj e12_
    have k13_ := w_addDigits_L4_in1 ka ca kb cb e1_
    obtain rfl := Option.some.inj h15_
    exact con_pc (op := true) (I := [127]) (sp := w_addDigits_sp) 3000 [] [.tup [iD (Int.ofNat 1), .one (.tuple #[])]] [] [k_l k13_ [] [.tup [iD (Int.ofNat 1), .one (.tuple #[])]] []] (by kernel_rfl)
  have h16_ := (if_neg j11_).symm.trans h10_
  clear h10_
  cases h16_
def m_127 (ds : List D) : Option D := pullD (α := Nat × (List D) × Nat × (List D)) (some (.tup ds)) (fun d => ((D.ln (D.at d 0)), (D.lc (D.at d 0)), (D.ln (D.at d 1)), (D.lc (D.at d 1)))) (fun (ka, ca, kb, cb) => .tup [.list ka ca, .list kb cb]) fun (ka, ca, kb, cb) => w_addDigits_M ka ca kb cb
theorem m_127_ok {ds : List D} {r : D} (h : m_127 ds = some r) : Con 127 ds r := by
  unfold m_127 at h
  obtain ⟨⟨ka, ca, kb, cb⟩, e0, h0⟩ := pullD_elim h
  obtain rfl := tup_inj e0
  exact w_addDigits_M_ok ka ca kb cb h0
theorem m_127_eq (ka : Nat) (ca : List D) (kb : Nat) (cb : List D) : m_127 [.list ka ca, .list kb cb] = w_addDigits_M ka ca kb cb := pullD_some (ka, ca, kb, cb) rfl rfl
def w_subDigits_x4_0 : LExit := ⟨some 0, [.grow 5 1], (List.range' 6 27)⟩
def w_subDigits_x4_1 : LExit := ⟨some 0, [.nil 5], (List.range' 6 27)⟩
def w_subDigits_sp : List LSpec := [⟨124, 4, [w_subDigits_x4_0, w_subDigits_x4_1]⟩]
def w_subDigits_L4_E (ka : Nat) (ca : List D) (kb : Nat) (cb : List D)  : List AV × AHeap := ([.dsl 0, .dsl 1, .pure (.tuple #[]), .pure (.tuple #[]), .pure (.slice none 0 0), .pure (.slice none 0 0), .pure (.int .i64 (0 : Int)), .pure (.int .i64 (0 : Int)), .pure (.tuple #[]), .pure (.tuple #[]), .pure (.tuple #[]), .pure (.tuple #[]), .pure (.tuple #[]), .pure (.tuple #[]), .pure (.tuple #[]), .pure (.tuple #[]), .pure (.tuple #[]), .pure (.tuple #[]), .pure (.tuple #[]), .pure (.tuple #[]), .pure (.tuple #[]), .pure (.tuple #[]), .pure (.tuple #[]), .pure (.tuple #[]), .pure (.tuple #[]), .pure (.tuple #[]), .pure (.tuple #[]), .pure (.tuple #[]), .pure (.tuple #[]), .pure (.tuple #[]), .pure (.tuple #[]), .pure (.tuple #[]), .pure (.tuple #[]), .pure (.tuple #[]), .pure (.tuple #[])], [(1, { cells := [], opn := none, kind := .deep kb cb }), (0, { cells := [], opn := none, kind := .deep ka ca })])
def w_subDigits_L4_A : LoopAt := ⟨124, loopAt Try.prog 124 0, 2, 30, 2, noFrame⟩
theorem w_subDigits_L4_ok : (w_subDigits_L4_A).OK := ⟨by show 2 ≤ 30; decide, by show 2 ≤ 2; decide, by kernel_rfl, rfl⟩
def w_subDigits_L4_gs (ka : Nat) (ca : List D) (kb : Nat) (cb : List D)  : Go.Ev.Rd → Option GS
  | .next 0 ds => ghost [.grow 5 1, .val 6, .val 7] (List.range' 8 25) (w_subDigits_L4_E ka ca kb cb).1 (w_subDigits_L4_E ka ca kb cb).2 2 ds
  | .next 1 ds => ghost [.nil 5, .val 6, .val 7] (List.range' 8 25) (w_subDigits_L4_E ka ca kb cb).1 (w_subDigits_L4_E ka ca kb cb).2 2 ds
  | .out 0 ds => ghost w_subDigits_x4_0.live w_subDigits_x4_0.junk (w_subDigits_L4_E ka ca kb cb).1 (w_subDigits_L4_E ka ca kb cb).2 2 ds
  | .out 1 ds => ghost w_subDigits_x4_1.live w_subDigits_x4_1.junk (w_subDigits_L4_E ka ca kb cb).1 (w_subDigits_L4_E ka ca kb cb).2 2 ds
  | _ => none
def w_subDigits_L4_ex : Nat → Option Nat
  | 0 => w_subDigits_x4_0.ex
  | 1 => w_subDigits_x4_1.ex
  | _ => none
def w_subDigits_L4_ax : Go.Ev.Rd → AX
  | .next _ _ => .normal
  | .out j _ => axOf (w_subDigits_L4_ex j)
def w_subDigits_L4_S0 (ka : Nat) (ca : List D) (kb : Nat) (cb : List D)  (ds : List D) : Option Go.Ev.Rd := pullD (α := Nat × (List D) × Int × Int) (some (.tup ds)) (fun d => ((D.ln (D.at d 0)), (D.lc (D.at d 0)), (D.vi (D.at d 1)), (D.vi (D.at d 2)))) (fun (s5n, s5c, s6, s7) => .tup [.list s5n s5c, iD s6, iD s7]) fun (s5n, s5c, s6, s7) => ((if s7 < (ka : Int) then guardP ((0 : Int) ≤ s7 ∧ s7.toNat < ka) (pullD (α := Int) (readD ca (s7.toNat * 1) 1 false) (fun d => ((D.vi d))) (fun v0 => iD v0) fun v0 => (pullD (α := Int) (m_126 [.list kb cb, iD s7]) (fun d => ((D.vi d))) (fun r1 => iD r1) fun r1 => ((if IntKind.i64.wrap (IntKind.i64.wrap (v0 - r1) - s6) < (0 : Int) then guardP ((∀ (u : D), u ∈ [dCell (.int .i64 (IntKind.i64.wrap (IntKind.i64.wrap (IntKind.i64.wrap (v0 - r1) - s6) + (1000000000 : Int))))] → cellD u) ∧ s5n * 1 ≤ s5c.length ∧ (s5n + (0 + 1)) * 8 ≤ 140737488355328 ∧ s5n + (0 + 1) ≤ 4611686018427387904) (some (.next 0 [.list (s5n + (0 + 1)) (List.append (List.take (s5n * 1) s5c) [dCell (.int .i64 (IntKind.i64.wrap (IntKind.i64.wrap (IntKind.i64.wrap (v0 - r1) - s6) + (1000000000 : Int))))]), iD (1 : Int), iD (IntKind.i64.wrap (s7 + (1 : Int)))])) else guardP ((∀ (u : D), u ∈ [dCell (.int .i64 (IntKind.i64.wrap (IntKind.i64.wrap (v0 - r1) - s6)))] → cellD u) ∧ s5n * 1 ≤ s5c.length ∧ (s5n + (0 + 1)) * 8 ≤ 140737488355328 ∧ s5n + (0 + 1) ≤ 4611686018427387904) (some (.next 0 [.list (s5n + (0 + 1)) (List.append (List.take (s5n * 1) s5c) [dCell (.int .i64 (IntKind.i64.wrap (IntKind.i64.wrap (v0 - r1) - s6)))]), iD (0 : Int), iD (IntKind.i64.wrap (s7 + (1 : Int)))])))))) else some (.out 0 [.list s5n s5c])))
def w_subDigits_L4_S1 (ka : Nat) (ca : List D) (kb : Nat) (cb : List D)  (ds : List D) : Option Go.Ev.Rd := pullD (α := Int × Int) (some (.tup ds)) (fun d => ((D.vi (D.at d 1)), (D.vi (D.at d 2)))) (fun (s6, s7) => .tup [.one (.tuple #[]), iD s6, iD s7]) fun (s6, s7) => ((if s7 < (ka : Int) then guardP ((0 : Int) ≤ s7 ∧ s7.toNat < ka) (pullD (α := Int) (readD ca (s7.toNat * 1) 1 false) (fun d => ((D.vi d))) (fun v0 => iD v0) fun v0 => (pullD (α := Int) (m_126 [.list kb cb, iD s7]) (fun d => ((D.vi d))) (fun r1 => iD r1) fun r1 => ((if IntKind.i64.wrap (IntKind.i64.wrap (v0 - r1) - s6) < (0 : Int) then some (.next 0 [.list 1 [iD (IntKind.i64.wrap (IntKind.i64.wrap (IntKind.i64.wrap (v0 - r1) - s6) + (1000000000 : Int)))], iD (1 : Int), iD (IntKind.i64.wrap (s7 + (1 : Int)))]) else some (.next 0 [.list 1 [iD (IntKind.i64.wrap (IntKind.i64.wrap (v0 - r1) - s6))], iD (0 : Int), iD (IntKind.i64.wrap (s7 + (1 : Int)))]))))) else some (.out 1 [.one (.tuple #[])])))
def w_subDigits_L4_S (ka : Nat) (ca : List D) (kb : Nat) (cb : List D)  : Go.Ev.Rd → Option Go.Ev.Rd
  | .next 0 ds => w_subDigits_L4_S0 ka ca kb cb ds
  | .next 1 ds => w_subDigits_L4_S1 ka ca kb cb ds
  | _ => none
theorem w_subDigits_L4_S_ok (ka : Nat) (ca : List D) (kb : Nat) (cb : List D)  : ∀ s_ t_, w_subDigits_L4_S ka ca kb cb s_ = some t_ → Step (ctx [124] w_subDigits_sp) Tabs w_subDigits_L4_A (stateOf (w_subDigits_L4_gs ka ca kb cb s_)) (stateOf (w_subDigits_L4_gs ka ca kb cb t_)) (w_subDigits_L4_ax t_) ∧ EndOK w_subDigits_L4_A.nx w_subDigits_L4_A.low (w_subDigits_L4_gs ka ca kb cb) t_
  | .next 0 ds, t_, h => by
    have h_ : w_subDigits_L4_S0 ka ca kb cb ds = some t_ := h
    clear h
    unfold w_subDigits_L4_S0 at h_
    obtain ⟨⟨s5n, s5c, s6, s7⟩, e0, h0⟩ := pullD_elim h_
    clear h_
    obtain rfl := tup_inj e0
    by_cases b1_ : s7 < (ka : Int)
    · have h2_ := (if_pos b1_).symm.trans h0
      obtain ⟨f3_, h4_⟩ := guardP_elim h2_
      obtain ⟨v0, f5_, h6_⟩ := pullD_elim h4_
      replace f5_ := readD_elim f5_
      obtain ⟨r1, f7_, h8_⟩ := pullD_elim h6_
      replace f7_ := m_126_ok f7_
      by_cases b9_ : IntKind.i64.wrap (IntKind.i64.wrap (v0 - r1) - s6) < (0 : Int)
      · have h10_ := (if_pos b9_).symm.trans h8_
        obtain ⟨f11_, h12_⟩ := guardP_elim h10_
        obtain rfl := Option.some.inj h12_
        exact ⟨step_pc 3000 (bT 2 []) [iD v0, iD r1] [c_d b1_, c_f f3_, c_f f5_, c_d b9_, c_f f11_] [k_c f7_] _ rfl (by kernel_rfl) (by kernel_rfl) (by kernel_rfl) (by kernel_rfl) (by kernel_rfl) (by kernel_rfl), trivial⟩
      have h10_ := (if_neg b9_).symm.trans h8_
      obtain ⟨f13_, h14_⟩ := guardP_elim h10_
      obtain rfl := Option.some.inj h14_
      exact ⟨step_pc 3000 (bT 1 (bF 1 [])) [iD v0, iD r1] [c_d b1_, c_f f3_, c_f f5_, c_n b9_, c_f f13_] [k_c f7_] _ rfl (by kernel_rfl) (by kernel_rfl) (by kernel_rfl) (by kernel_rfl) (by kernel_rfl) (by kernel_rfl), trivial⟩
    have h2_ := (if_neg b1_).symm.trans h0
    obtain rfl := Option.some.inj h2_
    exact ⟨step_pc 3000 (bF 1 []) [] [c_n b1_] [] _ rfl (by kernel_rfl) (by kernel_rfl) (by kernel_rfl) (by kernel_rfl) (by kernel_rfl) (by kernel_rfl), by kernel_rfl, by kernel_rfl⟩
  | .next 1 ds, t_, h => by
    have h_ : w_subDigits_L4_S1 ka ca kb cb ds = some t_ := h
    clear h
    unfold w_subDigits_L4_S1 at h_
    obtain ⟨⟨s6, s7⟩, e0, h0⟩ := pullD_elim h_
    clear h_
    obtain rfl := tup_inj e0
    by_cases b1_ : s7 < (ka : Int)
    · have h2_ := (if_pos b1_).symm.trans h0
      obtain ⟨f3_, h4_⟩ := guardP_elim h2_
      obtain ⟨v0, f5_, h6_⟩ := pullD_elim h4_
      replace f5_ := readD_elim f5_
      obtain ⟨r1, f7_, h8_⟩ := pullD_elim h6_
      replace f7_ := m_126_ok f7_
      by_cases b9_ : IntKind.i64.wrap (IntKind.i64.wrap (v0 - r1) - s6) < (0 : Int)
      · have h10_ := (if_pos b9_).symm.trans h8_
        obtain rfl := Option.some.inj h10_
        exact ⟨step_pc 3000 (bT 2 []) [iD v0, iD r1] [c_d b1_, c_f f3_, c_f f5_, c_d b9_, ⟨fact (0 < 0 + 1 ∧ (0 + 1) * 8 ≤ 140737488355328 ∧ 0 + 1 ≤ 4611686018427387904), true, fact_mk (by decide)⟩] [k_c f7_] _ rfl (by kernel_rfl) (by kernel_rfl) (by kernel_rfl) (by kernel_rfl) (by kernel_rfl) (by kernel_rfl), trivial⟩
      have h10_ := (if_neg b9_).symm.trans h8_
      obtain rfl := Option.some.inj h10_
      exact ⟨step_pc 3000 (bT 1 (bF 1 [])) [iD v0, iD r1] [c_d b1_, c_f f3_, c_f f5_, c_n b9_, ⟨fact (0 < 0 + 1 ∧ (0 + 1) * 8 ≤ 140737488355328 ∧ 0 + 1 ≤ 4611686018427387904), true, fact_mk (by decide)⟩] [k_c f7_] _ rfl (by kernel_rfl) (by kernel_rfl) (by kernel_rfl) (by kernel_rfl) (by kernel_rfl) (by kernel_rfl), trivial⟩
    have h2_ := (if_neg b1_).symm.trans h0
    obtain rfl := Option.some.inj h2_
    exact ⟨step_pc 3000 (bF 1 []) [] [c_n b1_] [] _ rfl (by kernel_rfl) (by kernel_rfl) (by kernel_rfl) (by kernel_rfl) (by kernel_rfl) (by kernel_rfl), by kernel_rfl, by kernel_rfl⟩
  | .next (_ + 2) _, _, h => by cases h
  | .out _ _, _, h => by cases h
theorem w_subDigits_L4_go (ka : Nat) (ca : List D) (kb : Nat) (cb : List D)  {q : Nat} {ds : List D} {j : Nat} {es : List D} (h : runR (w_subDigits_L4_S ka ca kb cb) (.next q ds) = some (.out j es)) : Runs (ctx [124] w_subDigits_sp) Tabs w_subDigits_L4_A (stateOf (w_subDigits_L4_gs ka ca kb cb (.next q ds))) (stateOf (w_subDigits_L4_gs ka ca kb cb (.out j es))) (w_subDigits_L4_ax (.out j es)) ∧ (nxtOf (w_subDigits_L4_gs ka ca kb cb (.out j es)), lowGS (w_subDigits_L4_gs ka ca kb cb (.out j es))) = (w_subDigits_L4_A.nx, w_subDigits_L4_A.low) :=
  runs_of' (good true _ _) w_subDigits_L4_ok (ax := w_subDigits_L4_ax) (fun _ _ => rfl) (fun _ _ => axOf_end _) (w_subDigits_L4_S_ok ka ca kb cb) h
theorem w_subDigits_L4_in0 (ka : Nat) (ca : List D) (kb : Nat) (cb : List D)  {es : List D} (h : runR (w_subDigits_L4_S ka ca kb cb) (.next 1 [.one (.tuple #[]), iD ((0 : Int)), iD ((0 : Int))]) = some (.out 0 es)) : LoopC (loopAt Try.prog 124 0) (w_subDigits_L4_E ka ca kb cb) 2 noFrame w_subDigits_x4_0 es :=
  have r := w_subDigits_L4_go ka ca kb cb h
  loopin_as rfl (loop_in (l := w_subDigits_L4_A) (E := (w_subDigits_L4_E ka ca kb cb)) (S := stateOf (w_subDigits_L4_gs ka ca kb cb (.next 1 [.one (.tuple #[]), iD ((0 : Int)), iD ((0 : Int))]))) (ns := nsOf (w_subDigits_L4_gs ka ca kb cb (.next 1 [.one (.tuple #[]), iD ((0 : Int)), iD ((0 : Int))]))) w_subDigits_L4_ok r.1 r.2 (by kernel_rfl) (by kernel_rfl) (by kernel_rfl) (by kernel_rfl))
theorem w_subDigits_L4_in1 (ka : Nat) (ca : List D) (kb : Nat) (cb : List D)  {es : List D} (h : runR (w_subDigits_L4_S ka ca kb cb) (.next 1 [.one (.tuple #[]), iD ((0 : Int)), iD ((0 : Int))]) = some (.out 1 es)) : LoopC (loopAt Try.prog 124 0) (w_subDigits_L4_E ka ca kb cb) 2 noFrame w_subDigits_x4_1 es :=
  have r := w_subDigits_L4_go ka ca kb cb h
  loopin_as rfl (loop_in (l := w_subDigits_L4_A) (E := (w_subDigits_L4_E ka ca kb cb)) (S := stateOf (w_subDigits_L4_gs ka ca kb cb (.next 1 [.one (.tuple #[]), iD ((0 : Int)), iD ((0 : Int))]))) (ns := nsOf (w_subDigits_L4_gs ka ca kb cb (.next 1 [.one (.tuple #[]), iD ((0 : Int)), iD ((0 : Int))]))) w_subDigits_L4_ok r.1 r.2 (by kernel_rfl) (by kernel_rfl) (by kernel_rfl) (by kernel_rfl))
def w_subDigits_M (ka : Nat) (ca : List D) (kb : Nat) (cb : List D) : Option D := bindL (runR (w_subDigits_L4_S ka ca kb cb) (.next 1 [.one (.tuple #[]), iD ((0 : Int)), iD ((0 : Int))])) fun j ds => (if j = 0 then pullD (α := Nat × (List D)) (some (.tup ds)) (fun d => ((D.ln (D.at d 0)), (D.lc (D.at d 0)))) (fun (k0, c1) => .tup [.list k0 c1]) fun (k0, c1) => (guardP ((0 + k0) * 1 ≤ c1.length ∧ 0 < 1) (pullD (α := Nat × (List D)) (m_120 [.list k0 c1]) (fun d => ((D.ln d), (D.lc d))) (fun (k2, c3) => .list k2 c3) fun (k2, c3) => (some (.list k2 c3)))) else if j = 1 then pullD (some (.tup ds)) (fun _ => ()) (fun _ => .tup [.one (.tuple #[])]) fun _ => (pullD (α := Nat × (List D)) (m_120 [.list 0 []]) (fun d => ((D.ln d), (D.lc d))) (fun (k4, c5) => .list k4 c5) fun (k4, c5) => (some (.list k4 c5))) else none)
theorem w_subDigits_M_ok (ka : Nat) (ca : List D) (kb : Nat) (cb : List D) {r : D} (h : w_subDigits_M ka ca kb cb = some r) : Con 124 [.list ka ca, .list kb cb] r := by
  unfold w_subDigits_M at h
  obtain ⟨j, ds, e1_, h2_⟩ := bindL_elim h
  by_cases j3_ : j = 0
  · have h6_ := (if_pos j3_).symm.trans h2_
    clear h2_
    subst j3_
    obtain ⟨⟨k0, c1⟩, e4_, h7_⟩ := pullD_elim h6_
    clear h6_
    obtain rfl := tup_inj e4_
    have k5_ := w_subDigits_L4_in0 ka ca kb cb e1_
    obtain ⟨f8_, h9_⟩ := guardP_elim h7_
    obtain ⟨⟨k2, c3⟩, f10_, h11_⟩ := pullD_elim h9_
    replace f10_ := m_120_ok f10_
    obtain rfl := Option.some.inj h11_
    exact con_pc (op := true) (I := [124]) (sp := w_subDigits_sp) 3000 [] [.tup [iD (Int.ofNat 0), .list k0 c1], .list k2 c3] [c_f f8_] [k_l k5_ [] [.tup [iD (Int.ofNat 0), .list k0 c1], .list k2 c3] [.list k2 c3], k_c f10_] (by kernel_rfl)
  have h12_ := (if_neg j3_).symm.trans h2_
  clear h2_
  by_cases j13_ : j = 1
  · have h16_ := (if_pos j13_).symm.trans h12_
    clear h12_
    subst j13_
    obtain ⟨⟨⟩, e14_, h17_⟩ := pullD_elim h16_
    clear h16_
    obtain rfl := tup_inj e14_
    have k15_ := w_subDigits_L4_in1 ka ca kb cb e1_
    obtain ⟨⟨k4, c5⟩, f18_, h19_⟩ := pullD_elim h17_
    replace f18_ := m_120_ok f18_
    obtain rfl := Option.some.inj h19_
    exact con_pc (op := true) (I := [124]) (sp := w_subDigits_sp) 3000 [] [.tup [iD (Int.ofNat 1), .one (.tuple #[])], .list k4 c5] [] [k_l k15_ [] [.tup [iD (Int.ofNat 1), .one (.tuple #[])], .list k4 c5] [.list k4 c5], k_c f18_] (by kernel_rfl)
  have h20_ := (if_neg j13_).symm.trans h12_
  clear h12_
  cases h20_
def m_124 (ds : List D) : Option D := pullD (α := Nat × (List D) × Nat × (List D)) (some (.tup ds)) (fun d => ((D.ln (D.at d 0)), (D.lc (D.at d 0)), (D.ln (D.at d 1)), (D.lc (D.at d 1)))) (fun (ka, ca, kb, cb) => .tup [.list ka ca, .list kb cb]) fun (ka, ca, kb, cb) => w_subDigits_M ka ca kb cb
theorem m_124_ok {ds : List D} {r : D} (h : m_124 ds = some r) : Con 124 ds r := by
  unfold m_124 at h
  obtain ⟨⟨ka, ca, kb, cb⟩, e0, h0⟩ := pullD_elim h
  obtain rfl := tup_inj e0
  exact w_subDigits_M_ok ka ca kb cb h0
theorem m_124_eq (ka : Nat) (ca : List D) (kb : Nat) (cb : List D) : m_124 [.list ka ca, .list kb cb] = w_subDigits_M ka ca kb cb := pullD_some (ka, ca, kb, cb) rfl rfl
def w_neg_sp : List LSpec := []
def w_neg_M (sa : Int) (ka : Nat) (ca : List D) : Option D := some (.agg [iD (IntKind.i64.wrap ((0 : Int) - sa)), .list ka ca])
theorem w_neg_M_ok (sa : Int) (ka : Nat) (ca : List D) {r : D} (h : w_neg_M sa ka ca = some r) : Con 112 [.agg [iD sa, .list ka ca]] r := by
  unfold w_neg_M at h
  obtain rfl := Option.some.inj h
  exact con_pc (op := true) (I := [112]) (sp := w_neg_sp) 3000 [] [] [] [] (by kernel_rfl)
def m_112 (ds : List D) : Option D := pullD (α := Int × Nat × (List D)) (some (.tup ds)) (fun d => ((D.vi (D.at (D.at d 0) 0)), (D.ln (D.at (D.at d 0) 1)), (D.lc (D.at (D.at d 0) 1)))) (fun (sa, ka, ca) => .tup [.agg [iD sa, .list ka ca]]) fun (sa, ka, ca) => w_neg_M sa ka ca
theorem m_112_ok {ds : List D} {r : D} (h : m_112 ds = some r) : Con 112 ds r := by
  unfold m_112 at h
  obtain ⟨⟨sa, ka, ca⟩, e0, h0⟩ := pullD_elim h
  obtain rfl := tup_inj e0
  exact w_neg_M_ok sa ka ca h0
theorem m_112_eq (sa : Int) (ka : Nat) (ca : List D) : m_112 [.agg [iD sa, .list ka ca]] = w_neg_M sa ka ca := pullD_some (sa, ka, ca) rfl rfl
def w_add_sp : List LSpec := []
def w_add_M (sa : Int) (ka : Nat) (ca : List D) (sb : Int) (kb : Nat) (cb : List D) : Option D := (if sa = (0 : Int) then some (.agg [iD sb, .list kb cb]) else (if sb = (0 : Int) then some (.agg [iD sa, .list ka ca]) else (if sa = sb then pullD (α := Nat × (List D)) (m_127 [.list ka ca, .list kb cb]) (fun d => ((D.ln d), (D.lc d))) (fun (k0, c1) => .list k0 c1) fun (k0, c1) => (pullD (α := Int × Nat × (List D)) (m_110 [iD sa, .list k0 c1]) (fun d => ((D.vi (D.at d 0)), (D.ln (D.at d 1)), (D.lc (D.at d 1)))) (fun (r2, k3, c4) => .agg [iD r2, .list k3 c4]) fun (r2, k3, c4) => (some (.agg [iD r2, .list k3 c4]))) else pullD (α := Int) (m_123 [.list ka ca, .list kb cb]) (fun d => ((D.vi d))) (fun r5 => iD r5) fun r5 => ((if r5 = (0 : Int) then some (.agg [iD (0 : Int), .list 0 []]) else (if r5 > (0 : Int) then pullD (α := Nat × (List D)) (m_124 [.list ka ca, .list kb cb]) (fun d => ((D.ln d), (D.lc d))) (fun (k6, c7) => .list k6 c7) fun (k6, c7) => (pullD (α := Int × Nat × (List D)) (m_110 [iD sa, .list k6 c7]) (fun d => ((D.vi (D.at d 0)), (D.ln (D.at d 1)), (D.lc (D.at d 1)))) (fun (r8, k9, c10) => .agg [iD r8, .list k9 c10]) fun (r8, k9, c10) => (some (.agg [iD r8, .list k9 c10]))) else pullD (α := Nat × (List D)) (m_124 [.list kb cb, .list ka ca]) (fun d => ((D.ln d), (D.lc d))) (fun (k11, c12) => .list k11 c12) fun (k11, c12) => (pullD (α := Int × Nat × (List D)) (m_110 [iD sb, .list k11 c12]) (fun d => ((D.vi (D.at d 0)), (D.ln (D.at d 1)), (D.lc (D.at d 1)))) (fun (r13, k14, c15) => .agg [iD r13, .list k14 c15]) fun (r13, k14, c15) => (some (.agg [iD r13, .list k14 c15])))))))))
theorem w_add_M_ok (sa : Int) (ka : Nat) (ca : List D) (sb : Int) (kb : Nat) (cb : List D) {r : D} (h : w_add_M sa ka ca sb kb cb = some r) : Con 125 [.agg [iD sa, .list ka ca], .agg [iD sb, .list kb cb]] r := by
  unfold w_add_M at h
  by_cases b1_ : sa = (0 : Int)
  · have h2_ := (if_pos b1_).symm.trans h
    obtain rfl := Option.some.inj h2_
    exact con_pc (op := true) (I := [125]) (sp := w_add_sp) 3000 (bT 1 []) [] [c_e b1_] [] (by kernel_rfl)
  have h2_ := (if_neg b1_).symm.trans h
  have b3_ : sa ≠ (0 : Int) := by first | exact b1_ | simpa using b1_
  by_cases b4_ : sb = (0 : Int)
  · have h5_ := (if_pos b4_).symm.trans h2_
    obtain rfl := Option.some.inj h5_
    exact con_pc (op := true) (I := [125]) (sp := w_add_sp) 3000 (bF 1 (bT 1 [])) [] [c_en b3_, c_e b4_] [] (by kernel_rfl)
  have h5_ := (if_neg b4_).symm.trans h2_
  have b6_ : sb ≠ (0 : Int) := by first | exact b4_ | simpa using b4_
  by_cases b7_ : sa = sb
  · have h8_ := (if_pos b7_).symm.trans h5_
    obtain ⟨⟨k0, c1⟩, f9_, h10_⟩ := pullD_elim h8_
    replace f9_ := m_127_ok f9_
    obtain ⟨⟨r2, k3, c4⟩, f11_, h12_⟩ := pullD_elim h10_
    replace f11_ := m_110_ok f11_
    obtain rfl := Option.some.inj h12_
    exact con_pc (op := true) (I := [125]) (sp := w_add_sp) 3000 (bF 2 (bT 1 [])) [.list k0 c1, .agg [iD r2, .list k3 c4]] [c_en b3_, c_en b6_, c_e b7_] [k_c f9_, k_c f11_] (by kernel_rfl)
  have h8_ := (if_neg b7_).symm.trans h5_
  have b13_ : sa ≠ sb := by first | exact b7_ | simpa using b7_
  obtain ⟨r5, f14_, h15_⟩ := pullD_elim h8_
  replace f14_ := m_123_ok f14_
  by_cases b16_ : r5 = (0 : Int)
  · have h17_ := (if_pos b16_).symm.trans h15_
    obtain rfl := Option.some.inj h17_
    exact con_pc (op := true) (I := [125]) (sp := w_add_sp) 3000 (bF 3 (bT 1 [])) [iD r5] [c_en b3_, c_en b6_, c_en b13_, c_e b16_] [k_c f14_] (by kernel_rfl)
  have h17_ := (if_neg b16_).symm.trans h15_
  have b18_ : r5 ≠ (0 : Int) := by first | exact b16_ | simpa using b16_
  by_cases b19_ : r5 > (0 : Int)
  · have h20_ := (if_pos b19_).symm.trans h17_
    obtain ⟨⟨k6, c7⟩, f21_, h22_⟩ := pullD_elim h20_
    replace f21_ := m_124_ok f21_
    obtain ⟨⟨r8, k9, c10⟩, f23_, h24_⟩ := pullD_elim h22_
    replace f23_ := m_110_ok f23_
    obtain rfl := Option.some.inj h24_
    exact con_pc (op := true) (I := [125]) (sp := w_add_sp) 3000 (bF 4 (bT 1 [])) [iD r5, .list k6 c7, .agg [iD r8, .list k9 c10]] [c_en b3_, c_en b6_, c_en b13_, c_en b18_, c_d b19_] [k_c f14_, k_c f21_, k_c f23_] (by kernel_rfl)
  have h20_ := (if_neg b19_).symm.trans h17_
  obtain ⟨⟨k11, c12⟩, f25_, h26_⟩ := pullD_elim h20_
  replace f25_ := m_124_ok f25_
  obtain ⟨⟨r13, k14, c15⟩, f27_, h28_⟩ := pullD_elim h26_
  replace f27_ := m_110_ok f27_
  obtain rfl := Option.some.inj h28_
  exact con_pc (op := true) (I := [125]) (sp := w_add_sp) 3000 (bF 5 []) [iD r5, .list k11 c12, .agg [iD r13, .list k14 c15]] [c_en b3_, c_en b6_, c_en b13_, c_en b18_, c_n b19_] [k_c f14_, k_c f25_, k_c f27_] (by kernel_rfl)
def m_125 (ds : List D) : Option D := pullD (α := Int × Nat × (List D) × Int × Nat × (List D)) (some (.tup ds)) (fun d => ((D.vi (D.at (D.at d 0) 0)), (D.ln (D.at (D.at d 0) 1)), (D.lc (D.at (D.at d 0) 1)), (D.vi (D.at (D.at d 1) 0)), (D.ln (D.at (D.at d 1) 1)), (D.lc (D.at (D.at d 1) 1)))) (fun (sa, ka, ca, sb, kb, cb) => .tup [.agg [iD sa, .list ka ca], .agg [iD sb, .list kb cb]]) fun (sa, ka, ca, sb, kb, cb) => w_add_M sa ka ca sb kb cb
theorem m_125_ok {ds : List D} {r : D} (h : m_125 ds = some r) : Con 125 ds r := by
  unfold m_125 at h
  obtain ⟨⟨sa, ka, ca, sb, kb, cb⟩, e0, h0⟩ := pullD_elim h
  obtain rfl := tup_inj e0
  exact w_add_M_ok sa ka ca sb kb cb h0
theorem m_125_eq (sa : Int) (ka : Nat) (ca : List D) (sb : Int) (kb : Nat) (cb : List D) : m_125 [.agg [iD sa, .list ka ca], .agg [iD sb, .list kb cb]] = w_add_M sa ka ca sb kb cb := pullD_some (sa, ka, ca, sb, kb, cb) rfl rfl
def w_sub_sp : List LSpec := []
def w_sub_M (sa : Int) (ka : Nat) (ca : List D) (sb : Int) (kb : Nat) (cb : List D) : Option D := pullD (α := Int × Nat × (List D)) (m_112 [.agg [iD sb, .list kb cb]]) (fun d => ((D.vi (D.at d 0)), (D.ln (D.at d 1)), (D.lc (D.at d 1)))) (fun (r0, k1, c2) => .agg [iD r0, .list k1 c2]) fun (r0, k1, c2) => (pullD (α := Int × Nat × (List D)) (m_125 [.agg [iD sa, .list ka ca], .agg [iD r0, .list k1 c2]]) (fun d => ((D.vi (D.at d 0)), (D.ln (D.at d 1)), (D.lc (D.at d 1)))) (fun (r3, k4, c5) => .agg [iD r3, .list k4 c5]) fun (r3, k4, c5) => (some (.agg [iD r3, .list k4 c5])))
theorem w_sub_M_ok (sa : Int) (ka : Nat) (ca : List D) (sb : Int) (kb : Nat) (cb : List D) {r : D} (h : w_sub_M sa ka ca sb kb cb = some r) : Con 122 [.agg [iD sa, .list ka ca], .agg [iD sb, .list kb cb]] r := by
  unfold w_sub_M at h
  obtain ⟨⟨r0, k1, c2⟩, f1_, h2_⟩ := pullD_elim h
  replace f1_ := m_112_ok f1_
  obtain ⟨⟨r3, k4, c5⟩, f3_, h4_⟩ := pullD_elim h2_
  replace f3_ := m_125_ok f3_
  obtain rfl := Option.some.inj h4_
  exact con_pc (op := true) (I := [122]) (sp := w_sub_sp) 3000 [] [.agg [iD r0, .list k1 c2], .agg [iD r3, .list k4 c5]] [] [k_c f1_, k_c f3_] (by kernel_rfl)
def m_122 (ds : List D) : Option D := pullD (α := Int × Nat × (List D) × Int × Nat × (List D)) (some (.tup ds)) (fun d => ((D.vi (D.at (D.at d 0) 0)), (D.ln (D.at (D.at d 0) 1)), (D.lc (D.at (D.at d 0) 1)), (D.vi (D.at (D.at d 1) 0)), (D.ln (D.at (D.at d 1) 1)), (D.lc (D.at (D.at d 1) 1)))) (fun (sa, ka, ca, sb, kb, cb) => .tup [.agg [iD sa, .list ka ca], .agg [iD sb, .list kb cb]]) fun (sa, ka, ca, sb, kb, cb) => w_sub_M sa ka ca sb kb cb
theorem m_122_ok {ds : List D} {r : D} (h : m_122 ds = some r) : Con 122 ds r := by
  unfold m_122 at h
  obtain ⟨⟨sa, ka, ca, sb, kb, cb⟩, e0, h0⟩ := pullD_elim h
  obtain rfl := tup_inj e0
  exact w_sub_M_ok sa ka ca sb kb cb h0
theorem m_122_eq (sa : Int) (ka : Nat) (ca : List D) (sb : Int) (kb : Nat) (cb : List D) : m_122 [.agg [iD sa, .list ka ca], .agg [iD sb, .list kb cb]] = w_sub_M sa ka ca sb kb cb := pullD_some (sa, ka, ca, sb, kb, cb) rfl rfl
def w_mul_x3_0 : LExit := ⟨some 0, [.made 5], (List.range' 6 4 ++ (List.range' 19 60))⟩
def w_mul_x7_0 : LExit := ⟨some 2, [.val 7, .made 5], (8 :: (9 :: (List.range' 26 36)))⟩
def w_mul_sp : List LSpec := [⟨94, 3, [w_mul_x3_0]⟩, ⟨94, 7, [w_mul_x7_0]⟩]
def w_mul_L7_E (sa : Int) (ka : Nat) (ca : List D) (sb : Int) (kb : Nat) (cb : List D) (x0 : Int) (x1 : List D) : List AV × AHeap := ([.agg [.pure (.int .i64 sa), .dsl 0], .agg [.pure (.int .i64 sb), .dsl 1], .ptr 2 0, .ptr 3 0, .ptr 4 0, .bsl 5 0 (IntKind.i64.wrap (IntKind.i64.wrap ((ka : Int) + (kb : Int)) + (1 : Int))).toNat (IntKind.i64.wrap (IntKind.i64.wrap ((ka : Int) + (kb : Int)) + (1 : Int))).toNat, .pure (.int .i64 x0), .pure (.int .i64 (0 : Int)), .pure (.int .i64 (0 : Int)), .any 8, .ptr 2 1, .dsl 0, .pure (.int .i64 (ka : Int)), .ptr 3 1, .dsl 1, .pure (.int .i64 (kb : Int)), .pure (.int .i64 (IntKind.i64.wrap ((ka : Int) + (kb : Int)))), .pure (.int .i64 (IntKind.i64.wrap (IntKind.i64.wrap ((ka : Int) + (kb : Int)) + (1 : Int)))), .bsl 5 0 (IntKind.i64.wrap (IntKind.i64.wrap ((ka : Int) + (kb : Int)) + (1 : Int))).toNat (IntKind.i64.wrap (IntKind.i64.wrap ((ka : Int) + (kb : Int)) + (1 : Int))).toNat, .pure (.int .i64 x0), .ptr 2 1, .dsl 0, .pure (.int .i64 (ka : Int)), .pure (.bool (decide (x0 < (ka : Int)))), .any 14, .any 15, .any 16, .any 17, .any 18, .any 19, .any 20, .any 21, .any 22, .any 23, .any 24, .any 25, .any 26, .any 27, .any 28, .any 29, .any 30, .any 31, .any 32, .any 33, .any 34, .any 35, .any 36, .any 37, .any 38, .any 39, .any 40, .any 41, .any 42, .any 43, .any 44, .any 45, .any 46, .any 47, .any 48, .any 49, .any 50, .any 51, .any 52, .any 53, .any 54, .any 55, .any 56, .any 57, .any 58, .any 59, .any 60, .any 61, .any 62, .any 63, .any 64, .any 65, .any 66, .any 67, .any 68, .pure (.tuple #[]), .pure (.tuple #[]), .pure (.tuple #[]), .pure (.tuple #[]), .pure (.tuple #[]), .pure (.tuple #[]), .pure (.tuple #[])], [(5, { cells := [], opn := none, kind := .big x1 }), (4, { cells := [.pure (.int .i64 (0 : Int)), .pure (.slice none 0 0)], opn := none, kind := .cells }), (3, { cells := [.pure (.int .i64 sb), .dsl 1], opn := none, kind := .cells }), (2, { cells := [.pure (.int .i64 sa), .dsl 0], opn := none, kind := .cells }), (1, { cells := [], opn := none, kind := .deep kb cb }), (0, { cells := [], opn := none, kind := .deep ka ca })])
def w_mul_L7_A : LoopAt := ⟨94, loopAt Try.prog 94 1, 71, 111, 5, noFrame⟩
theorem w_mul_L7_ok : (w_mul_L7_A).OK := ⟨by show 71 ≤ 111; decide, by show 5 ≤ 71; decide, by kernel_rfl, rfl⟩
def w_mul_L7_gs (sa : Int) (ka : Nat) (ca : List D) (sb : Int) (kb : Nat) (cb : List D) (x0 : Int) (x1 : List D) : Go.Ev.Rd → Option GS
  | .next 0 ds => ghost [.val 7, .val 8, .made 5] (9 :: (List.range' 26 36)) (w_mul_L7_E sa ka ca sb kb cb x0 x1).1 (w_mul_L7_E sa ka ca sb kb cb x0 x1).2 71 ds
  | .out 0 ds => ghost w_mul_x7_0.live w_mul_x7_0.junk (w_mul_L7_E sa ka ca sb kb cb x0 x1).1 (w_mul_L7_E sa ka ca sb kb cb x0 x1).2 71 ds
  | _ => none
def w_mul_L7_ex : Nat → Option Nat
  | 0 => w_mul_x7_0.ex
  | _ => none
def w_mul_L7_ax : Go.Ev.Rd → AX
  | .next _ _ => .normal
  | .out j _ => axOf (w_mul_L7_ex j)
def w_mul_L7_S0 (sa : Int) (ka : Nat) (ca : List D) (sb : Int) (kb : Nat) (cb : List D) (x0 : Int) (x1 : List D) (ds : List D) : Option Go.Ev.Rd := pullD (α := Int × Int × Nat × (List D)) (some (.tup ds)) (fun d => ((D.vi (D.at d 0)), (D.vi (D.at d 1)), (D.ln (D.at d 2)), (D.lc (D.at d 2)))) (fun (s7, s8, s5n, s5c) => .tup [iD s7, iD s8, .list s5n s5c]) fun (s7, s8, s5n, s5c) => ((if s8 < (kb : Int) then guardP ((0 : Int) ≤ IntKind.i64.wrap (x0 + s8) ∧ (IntKind.i64.wrap (x0 + s8)).toNat < (IntKind.i64.wrap (IntKind.i64.wrap ((ka : Int) + (kb : Int)) + (1 : Int))).toNat) (pullD (α := Int) (readD s5c (0 + (IntKind.i64.wrap (x0 + s8)).toNat * 1) 1 false) (fun d => ((D.vi d))) (fun v0 => iD v0) fun v0 => (guardP ((0 : Int) ≤ x0 ∧ x0.toNat < ka) (pullD (α := Int) (readD ca (x0.toNat * 1) 1 false) (fun d => ((D.vi d))) (fun v1 => iD v1) fun v1 => (guardP ((0 : Int) ≤ s8 ∧ s8.toNat < kb) (pullD (α := Int) (readD cb (s8.toNat * 1) 1 false) (fun d => ((D.vi d))) (fun v2 => iD v2) fun v2 => (guardP (0 + (IntKind.i64.wrap (x0 + s8)).toNat * 1 + 1 ≤ s5c.length ∧ ∀ (u : D), u ∈ [dCell (.int .i64 ((IntKind.i64.wrap (IntKind.i64.wrap (v0 + IntKind.i64.wrap (v1 * v2)) + s7)).tmod (1000000000 : Int)))] → cellD u) (some (.next 0 [iD (IntKind.i64.wrap ((IntKind.i64.wrap (IntKind.i64.wrap (v0 + IntKind.i64.wrap (v1 * v2)) + s7)).tdiv (1000000000 : Int))), iD (IntKind.i64.wrap (s8 + (1 : Int))), .list (IntKind.i64.wrap (IntKind.i64.wrap ((ka : Int) + (kb : Int)) + (1 : Int))).toNat (List.append (List.take (0 + (IntKind.i64.wrap (x0 + s8)).toNat * 1) s5c ++ [dCell (.int .i64 ((IntKind.i64.wrap (IntKind.i64.wrap (v0 + IntKind.i64.wrap (v1 * v2)) + s7)).tmod (1000000000 : Int)))]) (List.drop (0 + (IntKind.i64.wrap (x0 + s8)).toNat * 1 + [dCell (.int .i64 ((IntKind.i64.wrap (IntKind.i64.wrap (v0 + IntKind.i64.wrap (v1 * v2)) + s7)).tmod (1000000000 : Int)))].length) s5c))])))))))) else some (.out 0 [iD s7, .list (IntKind.i64.wrap (IntKind.i64.wrap ((ka : Int) + (kb : Int)) + (1 : Int))).toNat s5c])))
def w_mul_L7_S (sa : Int) (ka : Nat) (ca : List D) (sb : Int) (kb : Nat) (cb : List D) (x0 : Int) (x1 : List D) : Go.Ev.Rd → Option Go.Ev.Rd
  | .next 0 ds => w_mul_L7_S0 sa ka ca sb kb cb x0 x1 ds
  | _ => none
theorem w_mul_L7_S_ok (sa : Int) (ka : Nat) (ca : List D) (sb : Int) (kb : Nat) (cb : List D) (x0 : Int) (x1 : List D) : ∀ s_ t_, w_mul_L7_S sa ka ca sb kb cb x0 x1 s_ = some t_ → Step (ctx [94] w_mul_sp) Tabs w_mul_L7_A (stateOf (w_mul_L7_gs sa ka ca sb kb cb x0 x1 s_)) (stateOf (w_mul_L7_gs sa ka ca sb kb cb x0 x1 t_)) (w_mul_L7_ax t_) ∧ EndOK w_mul_L7_A.nx w_mul_L7_A.low (w_mul_L7_gs sa ka ca sb kb cb x0 x1) t_
  | .next 0 ds, t_, h => by
    have h_ : w_mul_L7_S0 sa ka ca sb kb cb x0 x1 ds = some t_ := h
    clear h
    unfold w_mul_L7_S0 at h_
    obtain ⟨⟨s7, s8, s5n, s5c⟩, e0, h0⟩ := pullD_elim h_
    clear h_
    obtain rfl := tup_inj e0
    by_cases b1_ : s8 < (kb : Int)
    · have h2_ := (if_pos b1_).symm.trans h0
      obtain ⟨f3_, h4_⟩ := guardP_elim h2_
      obtain ⟨v0, f5_, h6_⟩ := pullD_elim h4_
      replace f5_ := readD_elim f5_
      obtain ⟨f7_, h8_⟩ := guardP_elim h6_
      obtain ⟨v1, f9_, h10_⟩ := pullD_elim h8_
      replace f9_ := readD_elim f9_
      obtain ⟨f11_, h12_⟩ := guardP_elim h10_
      obtain ⟨v2, f13_, h14_⟩ := pullD_elim h12_
      replace f13_ := readD_elim f13_
      obtain ⟨f15_, h16_⟩ := guardP_elim h14_
      obtain rfl := Option.some.inj h16_
      exact ⟨step_pc 3000 (bT 1 []) [iD v0, iD v1, iD v2] [c_d b1_, c_f f3_, c_f f5_, c_f f7_, c_f f9_, c_f f11_, c_f f13_, c_F, c_F, c_f f3_, c_f f15_] [] _ rfl (by kernel_rfl) (by kernel_rfl) (by kernel_rfl) (by kernel_rfl) (by kernel_rfl) (by kernel_rfl), trivial⟩
    have h2_ := (if_neg b1_).symm.trans h0
    obtain rfl := Option.some.inj h2_
    exact ⟨step_pc 3000 (bF 1 []) [] [c_n b1_] [] _ rfl (by kernel_rfl) (by kernel_rfl) (by kernel_rfl) (by kernel_rfl) (by kernel_rfl) (by kernel_rfl), by kernel_rfl, by kernel_rfl⟩
  | .next (_ + 1) _, _, h => by cases h
  | .out _ _, _, h => by cases h
theorem w_mul_L7_go (sa : Int) (ka : Nat) (ca : List D) (sb : Int) (kb : Nat) (cb : List D) (x0 : Int) (x1 : List D) {q : Nat} {ds : List D} {j : Nat} {es : List D} (h : runR (w_mul_L7_S sa ka ca sb kb cb x0 x1) (.next q ds) = some (.out j es)) : Runs (ctx [94] w_mul_sp) Tabs w_mul_L7_A (stateOf (w_mul_L7_gs sa ka ca sb kb cb x0 x1 (.next q ds))) (stateOf (w_mul_L7_gs sa ka ca sb kb cb x0 x1 (.out j es))) (w_mul_L7_ax (.out j es)) ∧ (nxtOf (w_mul_L7_gs sa ka ca sb kb cb x0 x1 (.out j es)), lowGS (w_mul_L7_gs sa ka ca sb kb cb x0 x1 (.out j es))) = (w_mul_L7_A.nx, w_mul_L7_A.low) :=
  runs_of' (good true _ _) w_mul_L7_ok (ax := w_mul_L7_ax) (fun _ _ => rfl) (fun _ _ => axOf_end _) (w_mul_L7_S_ok sa ka ca sb kb cb x0 x1) h
theorem w_mul_L7_in0 (sa : Int) (ka : Nat) (ca : List D) (sb : Int) (kb : Nat) (cb : List D) (x0 : Int) (x1 : List D) {es : List D} (h : runR (w_mul_L7_S sa ka ca sb kb cb x0 x1) (.next 0 [iD ((0 : Int)), iD ((0 : Int)), .list ((IntKind.i64.wrap (IntKind.i64.wrap ((ka : Int) + (kb : Int)) + (1 : Int))).toNat) (x1)]) = some (.out 0 es)) : LoopC (loopAt Try.prog 94 1) (w_mul_L7_E sa ka ca sb kb cb x0 x1) 71 noFrame w_mul_x7_0 es :=
  have r := w_mul_L7_go sa ka ca sb kb cb x0 x1 h
  loopin_as rfl (loop_in (l := w_mul_L7_A) (E := (w_mul_L7_E sa ka ca sb kb cb x0 x1)) (S := stateOf (w_mul_L7_gs sa ka ca sb kb cb x0 x1 (.next 0 [iD ((0 : Int)), iD ((0 : Int)), .list ((IntKind.i64.wrap (IntKind.i64.wrap ((ka : Int) + (kb : Int)) + (1 : Int))).toNat) (x1)]))) (ns := nsOf (w_mul_L7_gs sa ka ca sb kb cb x0 x1 (.next 0 [iD ((0 : Int)), iD ((0 : Int)), .list ((IntKind.i64.wrap (IntKind.i64.wrap ((ka : Int) + (kb : Int)) + (1 : Int))).toNat) (x1)]))) w_mul_L7_ok r.1 r.2 (by kernel_rfl) (by kernel_rfl) (by kernel_rfl) (by kernel_rfl))
def w_mul_L3_E (sa : Int) (ka : Nat) (ca : List D) (sb : Int) (kb : Nat) (cb : List D)  : List AV × AHeap := ([.agg [.pure (.int .i64 sa), .dsl 0], .agg [.pure (.int .i64 sb), .dsl 1], .ptr 2 0, .ptr 3 0, .ptr 4 0, .bsl 5 0 (IntKind.i64.wrap (IntKind.i64.wrap ((ka : Int) + (kb : Int)) + (1 : Int))).toNat (IntKind.i64.wrap (IntKind.i64.wrap ((ka : Int) + (kb : Int)) + (1 : Int))).toNat, .pure (.int .i64 (0 : Int)), .pure (.tuple #[]), .pure (.tuple #[]), .pure (.tuple #[]), .ptr 2 1, .dsl 0, .pure (.int .i64 (ka : Int)), .ptr 3 1, .dsl 1, .pure (.int .i64 (kb : Int)), .pure (.int .i64 (IntKind.i64.wrap ((ka : Int) + (kb : Int)))), .pure (.int .i64 (IntKind.i64.wrap (IntKind.i64.wrap ((ka : Int) + (kb : Int)) + (1 : Int)))), .bsl 5 0 (IntKind.i64.wrap (IntKind.i64.wrap ((ka : Int) + (kb : Int)) + (1 : Int))).toNat (IntKind.i64.wrap (IntKind.i64.wrap ((ka : Int) + (kb : Int)) + (1 : Int))).toNat, .pure (.tuple #[]), .pure (.tuple #[]), .pure (.tuple #[]), .pure (.tuple #[]), .pure (.tuple #[]), .pure (.tuple #[]), .pure (.tuple #[]), .pure (.tuple #[]), .pure (.tuple #[]), .pure (.tuple #[]), .pure (.tuple #[]), .pure (.tuple #[]), .pure (.tuple #[]), .pure (.tuple #[]), .pure (.tuple #[]), .pure (.tuple #[]), .pure (.tuple #[]), .pure (.tuple #[]), .pure (.tuple #[]), .pure (.tuple #[]), .pure (.tuple #[]), .pure (.tuple #[]), .pure (.tuple #[]), .pure (.tuple #[]), .pure (.tuple #[]), .pure (.tuple #[]), .pure (.tuple #[]), .pure (.tuple #[]), .pure (.tuple #[]), .pure (.tuple #[]), .pure (.tuple #[]), .pure (.tuple #[]), .pure (.tuple #[]), .pure (.tuple #[]), .pure (.tuple #[]), .pure (.tuple #[]), .pure (.tuple #[]), .pure (.tuple #[]), .pure (.tuple #[]), .pure (.tuple #[]), .pure (.tuple #[]), .pure (.tuple #[]), .pure (.tuple #[]), .pure (.tuple #[]), .pure (.tuple #[]), .pure (.tuple #[]), .pure (.tuple #[]), .pure (.tuple #[]), .pure (.tuple #[]), .pure (.tuple #[]), .pure (.tuple #[]), .pure (.tuple #[]), .pure (.tuple #[]), .pure (.tuple #[]), .pure (.tuple #[]), .pure (.tuple #[]), .pure (.tuple #[]), .pure (.tuple #[]), .pure (.tuple #[]), .pure (.tuple #[]), .pure (.tuple #[]), .pure (.tuple #[]), .pure (.tuple #[]), .pure (.tuple #[]), .pure (.tuple #[]), .pure (.tuple #[]), .pure (.tuple #[])], [(5, { cells := [], opn := none, kind := .big (List.map dCell (List.replicate (IntKind.i64.wrap (IntKind.i64.wrap ((ka : Int) + (kb : Int)) + (1 : Int))).toNat (Value.int .i64 (0 : Int)).cells.toList).flatten) }), (4, { cells := [.pure (.int .i64 (0 : Int)), .pure (.slice none 0 0)], opn := none, kind := .cells }), (3, { cells := [.pure (.int .i64 sb), .dsl 1], opn := none, kind := .cells }), (2, { cells := [.pure (.int .i64 sa), .dsl 0], opn := none, kind := .cells }), (1, { cells := [], opn := none, kind := .deep kb cb }), (0, { cells := [], opn := none, kind := .deep ka ca })])
def w_mul_L3_A : LoopAt := ⟨94, loopAt Try.prog 94 0, 6, 71, 5, noFrame⟩
theorem w_mul_L3_ok : (w_mul_L3_A).OK := ⟨by show 6 ≤ 71; decide, by show 5 ≤ 6; decide, by kernel_rfl, rfl⟩
def w_mul_L3_gs (sa : Int) (ka : Nat) (ca : List D) (sb : Int) (kb : Nat) (cb : List D)  : Go.Ev.Rd → Option GS
  | .next 0 ds => ghost [.val 6, .made 5] (7 :: (8 :: (9 :: (List.range' 19 60)))) (w_mul_L3_E sa ka ca sb kb cb).1 (w_mul_L3_E sa ka ca sb kb cb).2 6 ds
  | .out 0 ds => ghost w_mul_x3_0.live w_mul_x3_0.junk (w_mul_L3_E sa ka ca sb kb cb).1 (w_mul_L3_E sa ka ca sb kb cb).2 6 ds
  | _ => none
def w_mul_L3_ex : Nat → Option Nat
  | 0 => w_mul_x3_0.ex
  | _ => none
def w_mul_L3_ax : Go.Ev.Rd → AX
  | .next _ _ => .normal
  | .out j _ => axOf (w_mul_L3_ex j)
def w_mul_L3_S0 (sa : Int) (ka : Nat) (ca : List D) (sb : Int) (kb : Nat) (cb : List D)  (ds : List D) : Option Go.Ev.Rd := pullD (α := Int × Nat × (List D)) (some (.tup ds)) (fun d => ((D.vi (D.at d 0)), (D.ln (D.at d 1)), (D.lc (D.at d 1)))) (fun (s6, s5n, s5c) => .tup [iD s6, .list s5n s5c]) fun (s6, s5n, s5c) => ((if s6 < (ka : Int) then guardP ((0 : Int) ≤ IntKind.i64.wrap (s6 + (kb : Int)) ∧ (IntKind.i64.wrap (s6 + (kb : Int))).toNat < (IntKind.i64.wrap (IntKind.i64.wrap ((ka : Int) + (kb : Int)) + (1 : Int))).toNat) (bindL (runR (w_mul_L7_S sa ka ca sb kb cb s6 s5c) (.next 0 [iD ((0 : Int)), iD ((0 : Int)), .list ((IntKind.i64.wrap (IntKind.i64.wrap ((ka : Int) + (kb : Int)) + (1 : Int))).toNat) (s5c)])) fun j ds => (if j = 0 then pullD (α := Int × Nat × (List D)) (some (.tup ds)) (fun d => ((D.vi (D.at d 0)), (D.ln (D.at d 1)), (D.lc (D.at d 1)))) (fun (l0, k1, c2) => .tup [iD l0, .list k1 c2]) fun (l0, k1, c2) => (pullD (α := Int) (readD c2 (0 + (IntKind.i64.wrap (s6 + (kb : Int))).toNat * 1) 1 false) (fun d => ((D.vi d))) (fun v3 => iD v3) fun v3 => (guardP (0 + (IntKind.i64.wrap (s6 + (kb : Int))).toNat * 1 + 1 ≤ c2.length ∧ ∀ (u : D), u ∈ [dCell (.int .i64 (IntKind.i64.wrap (v3 + l0)))] → cellD u) (some (.next 0 [iD (IntKind.i64.wrap (s6 + (1 : Int))), .list (IntKind.i64.wrap (IntKind.i64.wrap ((ka : Int) + (kb : Int)) + (1 : Int))).toNat (List.append (List.take (0 + (IntKind.i64.wrap (s6 + (kb : Int))).toNat * 1) c2 ++ [dCell (.int .i64 (IntKind.i64.wrap (v3 + l0)))]) (List.drop (0 + (IntKind.i64.wrap (s6 + (kb : Int))).toNat * 1 + [dCell (.int .i64 (IntKind.i64.wrap (v3 + l0)))].length) c2))])))) else none)) else some (.out 0 [.list (IntKind.i64.wrap (IntKind.i64.wrap ((ka : Int) + (kb : Int)) + (1 : Int))).toNat s5c])))
def w_mul_L3_S (sa : Int) (ka : Nat) (ca : List D) (sb : Int) (kb : Nat) (cb : List D)  : Go.Ev.Rd → Option Go.Ev.Rd
  | .next 0 ds => w_mul_L3_S0 sa ka ca sb kb cb ds
  | _ => none
theorem w_mul_L3_S_ok (sa : Int) (ka : Nat) (ca : List D) (sb : Int) (kb : Nat) (cb : List D)  : ∀ s_ t_, w_mul_L3_S sa ka ca sb kb cb s_ = some t_ → Step (ctx [94] w_mul_sp) Tabs w_mul_L3_A (stateOf (w_mul_L3_gs sa ka ca sb kb cb s_)) (stateOf (w_mul_L3_gs sa ka ca sb kb cb t_)) (w_mul_L3_ax t_) ∧ EndOK w_mul_L3_A.nx w_mul_L3_A.low (w_mul_L3_gs sa ka ca sb kb cb) t_
  | .next 0 ds, t_, h => by
    have h_ : w_mul_L3_S0 sa ka ca sb kb cb ds = some t_ := h
    clear h
    unfold w_mul_L3_S0 at h_
    obtain ⟨⟨s6, s5n, s5c⟩, e0, h0⟩ := pullD_elim h_
    clear h_
    obtain rfl := tup_inj e0
    by_cases b1_ : s6 < (ka : Int)
    · have h2_ := (if_pos b1_).symm.trans h0
      obtain ⟨f3_, h4_⟩ := guardP_elim h2_
      obtain ⟨j, ds, e5_, h6_⟩ := bindL_elim h4_
      by_cases j7_ : j = 0
      · have h10_ := (if_pos j7_).symm.trans h6_
        clear h6_
        subst j7_
        obtain ⟨⟨l0, k1, c2⟩, e8_, h11_⟩ := pullD_elim h10_
        clear h10_
        obtain rfl := tup_inj e8_
        have k9_ := w_mul_L7_in0 sa ka ca sb kb cb s6 s5c e5_
        obtain ⟨v3, f12_, h13_⟩ := pullD_elim h11_
        replace f12_ := readD_elim f12_
        obtain ⟨f14_, h15_⟩ := guardP_elim h13_
        obtain rfl := Option.some.inj h15_
        exact ⟨step_pc 3000 (bT 1 []) [.tup [iD (Int.ofNat 0), iD l0, .list k1 c2], iD v3] [c_d b1_, c_f f3_, c_f f12_, c_f f3_, c_f f14_] [k_l k9_ [] [.tup [iD (Int.ofNat 0), iD l0, .list k1 c2], iD v3] [iD v3]] _ rfl (by kernel_rfl) (by kernel_rfl) (by kernel_rfl) (by kernel_rfl) (by kernel_rfl) (by kernel_rfl), trivial⟩
      have h16_ := (if_neg j7_).symm.trans h6_
      clear h6_
      cases h16_
    have h2_ := (if_neg b1_).symm.trans h0
    obtain rfl := Option.some.inj h2_
    exact ⟨step_pc 3000 (bF 1 []) [] [c_n b1_] [] _ rfl (by kernel_rfl) (by kernel_rfl) (by kernel_rfl) (by kernel_rfl) (by kernel_rfl) (by kernel_rfl), by kernel_rfl, by kernel_rfl⟩
  | .next (_ + 1) _, _, h => by cases h
  | .out _ _, _, h => by cases h
theorem w_mul_L3_go (sa : Int) (ka : Nat) (ca : List D) (sb : Int) (kb : Nat) (cb : List D)  {q : Nat} {ds : List D} {j : Nat} {es : List D} (h : runR (w_mul_L3_S sa ka ca sb kb cb) (.next q ds) = some (.out j es)) : Runs (ctx [94] w_mul_sp) Tabs w_mul_L3_A (stateOf (w_mul_L3_gs sa ka ca sb kb cb (.next q ds))) (stateOf (w_mul_L3_gs sa ka ca sb kb cb (.out j es))) (w_mul_L3_ax (.out j es)) ∧ (nxtOf (w_mul_L3_gs sa ka ca sb kb cb (.out j es)), lowGS (w_mul_L3_gs sa ka ca sb kb cb (.out j es))) = (w_mul_L3_A.nx, w_mul_L3_A.low) :=
  runs_of' (good true _ _) w_mul_L3_ok (ax := w_mul_L3_ax) (fun _ _ => rfl) (fun _ _ => axOf_end _) (w_mul_L3_S_ok sa ka ca sb kb cb) h
theorem w_mul_L3_in0 (sa : Int) (ka : Nat) (ca : List D) (sb : Int) (kb : Nat) (cb : List D)  {es : List D} (h : runR (w_mul_L3_S sa ka ca sb kb cb) (.next 0 [iD ((0 : Int)), .list ((IntKind.i64.wrap (IntKind.i64.wrap ((ka : Int) + (kb : Int)) + (1 : Int))).toNat) ((List.map dCell (List.replicate (IntKind.i64.wrap (IntKind.i64.wrap ((ka : Int) + (kb : Int)) + (1 : Int))).toNat (Value.int .i64 (0 : Int)).cells.toList).flatten))]) = some (.out 0 es)) : LoopC (loopAt Try.prog 94 0) (w_mul_L3_E sa ka ca sb kb cb) 6 noFrame w_mul_x3_0 es :=
  have r := w_mul_L3_go sa ka ca sb kb cb h
  loopin_as rfl (loop_in (l := w_mul_L3_A) (E := (w_mul_L3_E sa ka ca sb kb cb)) (S := stateOf (w_mul_L3_gs sa ka ca sb kb cb (.next 0 [iD ((0 : Int)), .list ((IntKind.i64.wrap (IntKind.i64.wrap ((ka : Int) + (kb : Int)) + (1 : Int))).toNat) ((List.map dCell (List.replicate (IntKind.i64.wrap (IntKind.i64.wrap ((ka : Int) + (kb : Int)) + (1 : Int))).toNat (Value.int .i64 (0 : Int)).cells.toList).flatten))]))) (ns := nsOf (w_mul_L3_gs sa ka ca sb kb cb (.next 0 [iD ((0 : Int)), .list ((IntKind.i64.wrap (IntKind.i64.wrap ((ka : Int) + (kb : Int)) + (1 : Int))).toNat) ((List.map dCell (List.replicate (IntKind.i64.wrap (IntKind.i64.wrap ((ka : Int) + (kb : Int)) + (1 : Int))).toNat (Value.int .i64 (0 : Int)).cells.toList).flatten))]))) w_mul_L3_ok r.1 r.2 (by kernel_rfl) (by kernel_rfl) (by kernel_rfl) (by kernel_rfl))
def w_mul_M (sa : Int) (ka : Nat) (ca : List D) (sb : Int) (kb : Nat) (cb : List D) : Option D := guardP ((0 : Int) ≤ IntKind.i64.wrap (IntKind.i64.wrap ((ka : Int) + (kb : Int)) + (1 : Int)) ∧ IntKind.i64.wrap (IntKind.i64.wrap ((ka : Int) + (kb : Int)) + (1 : Int)) ≤ IntKind.i64.wrap (IntKind.i64.wrap ((ka : Int) + (kb : Int)) + (1 : Int)) ∧ 8 * (IntKind.i64.wrap (IntKind.i64.wrap ((ka : Int) + (kb : Int)) + (1 : Int))).toNat ≤ 140737488355328 ∧ (IntKind.i64.wrap (IntKind.i64.wrap ((ka : Int) + (kb : Int)) + (1 : Int))).toNat ≤ 140737488355328) (guardP ((IntKind.i64.wrap (IntKind.i64.wrap ((ka : Int) + (kb : Int)) + (1 : Int))).toNat ≤ (IntKind.i64.wrap (IntKind.i64.wrap ((ka : Int) + (kb : Int)) + (1 : Int))).toNat) (bindL (runR (w_mul_L3_S sa ka ca sb kb cb) (.next 0 [iD ((0 : Int)), .list ((IntKind.i64.wrap (IntKind.i64.wrap ((ka : Int) + (kb : Int)) + (1 : Int))).toNat) ((List.map dCell (List.replicate (IntKind.i64.wrap (IntKind.i64.wrap ((ka : Int) + (kb : Int)) + (1 : Int))).toNat (Value.int .i64 (0 : Int)).cells.toList).flatten))])) fun j ds => (if j = 0 then pullD (α := Nat × (List D)) (some (.tup ds)) (fun d => ((D.ln (D.at d 0)), (D.lc (D.at d 0)))) (fun (k0, c1) => .tup [.list k0 c1]) fun (k0, c1) => (pullD (α := Int × Nat × (List D)) (m_110 [iD (IntKind.i64.wrap (sa * sb)), .list (IntKind.i64.wrap (IntKind.i64.wrap ((ka : Int) + (kb : Int)) + (1 : Int))).toNat c1]) (fun d => ((D.vi (D.at d 0)), (D.ln (D.at d 1)), (D.lc (D.at d 1)))) (fun (r2, k3, c4) => .agg [iD r2, .list k3 c4]) fun (r2, k3, c4) => (some (.agg [iD r2, .list k3 c4]))) else none)))
theorem w_mul_M_ok (sa : Int) (ka : Nat) (ca : List D) (sb : Int) (kb : Nat) (cb : List D) {r : D} (h : w_mul_M sa ka ca sb kb cb = some r) : Con 94 [.agg [iD sa, .list ka ca], .agg [iD sb, .list kb cb]] r := by
  unfold w_mul_M at h
  obtain ⟨f1_, h2_⟩ := guardP_elim h
  obtain ⟨f3_, h4_⟩ := guardP_elim h2_
  obtain ⟨j, ds, e5_, h6_⟩ := bindL_elim h4_
  by_cases j7_ : j = 0
  · have h10_ := (if_pos j7_).symm.trans h6_
    clear h6_
    subst j7_
    obtain ⟨⟨k0, c1⟩, e8_, h11_⟩ := pullD_elim h10_
    clear h10_
    obtain rfl := tup_inj e8_
    have k9_ := w_mul_L3_in0 sa ka ca sb kb cb e5_
    obtain ⟨⟨r2, k3, c4⟩, f12_, h13_⟩ := pullD_elim h11_
    replace f12_ := m_110_ok f12_
    obtain rfl := Option.some.inj h13_
    exact con_pc (op := true) (I := [94]) (sp := w_mul_sp) 3000 [] [.tup [iD (Int.ofNat 0), .list k0 c1], .agg [iD r2, .list k3 c4]] [c_f f1_, c_f f3_] [k_l k9_ [] [.tup [iD (Int.ofNat 0), .list k0 c1], .agg [iD r2, .list k3 c4]] [.agg [iD r2, .list k3 c4]], k_c f12_] (by kernel_rfl)
  have h14_ := (if_neg j7_).symm.trans h6_
  clear h6_
  cases h14_
def m_94 (ds : List D) : Option D := pullD (α := Int × Nat × (List D) × Int × Nat × (List D)) (some (.tup ds)) (fun d => ((D.vi (D.at (D.at d 0) 0)), (D.ln (D.at (D.at d 0) 1)), (D.lc (D.at (D.at d 0) 1)), (D.vi (D.at (D.at d 1) 0)), (D.ln (D.at (D.at d 1) 1)), (D.lc (D.at (D.at d 1) 1)))) (fun (sa, ka, ca, sb, kb, cb) => .tup [.agg [iD sa, .list ka ca], .agg [iD sb, .list kb cb]]) fun (sa, ka, ca, sb, kb, cb) => w_mul_M sa ka ca sb kb cb
theorem m_94_ok {ds : List D} {r : D} (h : m_94 ds = some r) : Con 94 ds r := by
  unfold m_94 at h
  obtain ⟨⟨sa, ka, ca, sb, kb, cb⟩, e0, h0⟩ := pullD_elim h
  obtain rfl := tup_inj e0
  exact w_mul_M_ok sa ka ca sb kb cb h0
theorem m_94_eq (sa : Int) (ka : Nat) (ca : List D) (sb : Int) (kb : Nat) (cb : List D) : m_94 [.agg [iD sa, .list ka ca], .agg [iD sb, .list kb cb]] = w_mul_M sa ka ca sb kb cb := pullD_some (sa, ka, ca, sb, kb, cb) rfl rfl
def w_sign_sp : List LSpec := []
def w_sign_M (sa : Int) (ka : Nat) (ca : List D) : Option D := some (iD sa)
theorem w_sign_M_ok (sa : Int) (ka : Nat) (ca : List D) {r : D} (h : w_sign_M sa ka ca = some r) : Con 111 [.agg [iD sa, .list ka ca]] r := by
  unfold w_sign_M at h
  obtain rfl := Option.some.inj h
  exact con_pc (op := true) (I := [111]) (sp := w_sign_sp) 3000 [] [] [] [] (by kernel_rfl)
def m_111 (ds : List D) : Option D := pullD (α := Int × Nat × (List D)) (some (.tup ds)) (fun d => ((D.vi (D.at (D.at d 0) 0)), (D.ln (D.at (D.at d 0) 1)), (D.lc (D.at (D.at d 0) 1)))) (fun (sa, ka, ca) => .tup [.agg [iD sa, .list ka ca]]) fun (sa, ka, ca) => w_sign_M sa ka ca
theorem m_111_ok {ds : List D} {r : D} (h : m_111 ds = some r) : Con 111 ds r := by
  unfold m_111 at h
  obtain ⟨⟨sa, ka, ca⟩, e0, h0⟩ := pullD_elim h
  obtain rfl := tup_inj e0
  exact w_sign_M_ok sa ka ca h0
theorem m_111_eq (sa : Int) (ka : Nat) (ca : List D) : m_111 [.agg [iD sa, .list ka ca]] = w_sign_M sa ka ca := pullD_some (sa, ka, ca) rfl rfl
def w_cmp_sp : List LSpec := []
def w_cmp_M (sa : Int) (ka : Nat) (ca : List D) (sb : Int) (kb : Nat) (cb : List D) : Option D := pullD (α := Int × Nat × (List D)) (m_122 [.agg [iD sa, .list ka ca], .agg [iD sb, .list kb cb]]) (fun d => ((D.vi (D.at d 0)), (D.ln (D.at d 1)), (D.lc (D.at d 1)))) (fun (r0, k1, c2) => .agg [iD r0, .list k1 c2]) fun (r0, k1, c2) => (some (iD r0))
theorem w_cmp_M_ok (sa : Int) (ka : Nat) (ca : List D) (sb : Int) (kb : Nat) (cb : List D) {r : D} (h : w_cmp_M sa ka ca sb kb cb = some r) : Con 114 [.agg [iD sa, .list ka ca], .agg [iD sb, .list kb cb]] r := by
  unfold w_cmp_M at h
  obtain ⟨⟨r0, k1, c2⟩, f1_, h2_⟩ := pullD_elim h
  replace f1_ := m_122_ok f1_
  obtain rfl := Option.some.inj h2_
  exact con_pc (op := true) (I := [114]) (sp := w_cmp_sp) 3000 [] [.agg [iD r0, .list k1 c2]] [] [k_c f1_] (by kernel_rfl)
def m_114 (ds : List D) : Option D := pullD (α := Int × Nat × (List D) × Int × Nat × (List D)) (some (.tup ds)) (fun d => ((D.vi (D.at (D.at d 0) 0)), (D.ln (D.at (D.at d 0) 1)), (D.lc (D.at (D.at d 0) 1)), (D.vi (D.at (D.at d 1) 0)), (D.ln (D.at (D.at d 1) 1)), (D.lc (D.at (D.at d 1) 1)))) (fun (sa, ka, ca, sb, kb, cb) => .tup [.agg [iD sa, .list ka ca], .agg [iD sb, .list kb cb]]) fun (sa, ka, ca, sb, kb, cb) => w_cmp_M sa ka ca sb kb cb
theorem m_114_ok {ds : List D} {r : D} (h : m_114 ds = some r) : Con 114 ds r := by
  unfold m_114 at h
  obtain ⟨⟨sa, ka, ca, sb, kb, cb⟩, e0, h0⟩ := pullD_elim h
  obtain rfl := tup_inj e0
  exact w_cmp_M_ok sa ka ca sb kb cb h0
theorem m_114_eq (sa : Int) (ka : Nat) (ca : List D) (sb : Int) (kb : Nat) (cb : List D) : m_114 [.agg [iD sa, .list ka ca], .agg [iD sb, .list kb cb]] = w_cmp_M sa ka ca sb kb cb := pullD_some (sa, ka, ca, sb, kb, cb) rfl rfl
def w_floor_x5_0 : LExit := ⟨some 0, [.val 6, .made 5], (List.range' 7 4 ++ (List.range' 25 47))⟩
def w_floor_x9_0 : LExit := ⟨some 2, [.val 8], (9 :: (10 :: (List.range' 38 21)))⟩
def w_floor_sp : List LSpec := [⟨115, 5, [w_floor_x5_0]⟩, ⟨115, 9, [w_floor_x9_0]⟩]
def w_floor_L9_E (sa : Int) (ka : Nat) (ca : List D) (sb : Int) (kb : Nat) (cb : List D) (x0 : Nat) (x1 : List D) (x2 : Int) (x3 : List D) (x4 : Int) (x5 : Nat) (x6 : List D) : List AV × AHeap := ([.agg [.pure (.int .i64 sa), .dsl 0], .agg [.pure (.int .i64 sb), .dsl 1], .ptr 2 0, .ptr 3 0, .ptr 4 0, .bsl 5 0 ((ka : Int)).toNat ((ka : Int)).toNat, .dsl 62, .pure (.int .i64 x2), .pure (.int .i64 (0 : Int)), .pure (.int .i64 (999999999 : Int)), .any 10, .pure (.tuple #[]), .ptr 2 0, .pure (.int .i64 sa), .pure (.bool (sa == (0 : Int))), .pure (.tuple #[]), .ptr 2 1, .dsl 0, .pure (.int .i64 (ka : Int)), .bsl 5 0 ((ka : Int)).toNat ((ka : Int)).toNat, .dsl 6, .ptr 2 1, .dsl 0, .pure (.int .i64 (ka : Int)), .pure (.int .i64 (IntKind.i64.wrap ((ka : Int) - (1 : Int)))), .pure (.int .i64 x2), .pure (.bool (decide (x2 ≥ (0 : Int)))), .any 13, .any 14, .ptr 2 1, .dsl 0, .pure (.int .i64 x2), .dptr 0 (x2.toNat * 1), .pure (.int .i64 x4), .sl 60 0 1 1, .dsl 7, .bslx 61 0 (0 + 1 + x0) 0, .dsl 62, .any 24, .any 25, .any 26, .any 27, .any 28, .any 29, .any 30, .any 31, .any 32, .any 33, .any 34, .any 35, .any 36, .any 37, .any 38, .any 39, .any 40, .any 41, .any 42, .any 43, .any 44, .any 45, .any 46, .any 47, .any 48, .any 49, .any 50, .any 51, .any 52, .any 53, .any 54, .any 55, .any 56, .any 57, .pure (.tuple #[]), .pure (.tuple #[]), .pure (.tuple #[]), .pure (.tuple #[]), .pure (.tuple #[]), .pure (.tuple #[]), .pure (.tuple #[]), .pure (.tuple #[]), .pure (.tuple #[]), .pure (.tuple #[]), .pure (.tuple #[]), .pure (.tuple #[]), .pure (.tuple #[]), .pure (.tuple #[]), .pure (.tuple #[]), .pure (.tuple #[])], [(62, { cells := [], opn := none, kind := .deep x5 x6 }), (7, { cells := [], opn := none, kind := .deep x0 x1 }), (6, { cells := [], opn := none, kind := .deep 0 [] }), (5, { cells := [], opn := none, kind := .big x3 }), (4, { cells := [.pure (.int .i64 (0 : Int)), .pure (.slice none 0 0)], opn := none, kind := .cells }), (3, { cells := [.pure (.int .i64 sb), .dsl 1], opn := none, kind := .cells }), (2, { cells := [.pure (.int .i64 sa), .dsl 0], opn := none, kind := .cells }), (1, { cells := [], opn := none, kind := .deep kb cb }), (0, { cells := [], opn := none, kind := .deep ka ca })])
def w_floor_L9_A : LoopAt := ⟨115, loopAt Try.prog 115 1, 63, 87, 63, noFrame⟩
theorem w_floor_L9_ok : (w_floor_L9_A).OK := ⟨by show 63 ≤ 87; decide, by show 63 ≤ 63; decide, by kernel_rfl, rfl⟩
def w_floor_L9_gs (sa : Int) (ka : Nat) (ca : List D) (sb : Int) (kb : Nat) (cb : List D) (x0 : Nat) (x1 : List D) (x2 : Int) (x3 : List D) (x4 : Int) (x5 : Nat) (x6 : List D) : Go.Ev.Rd → Option GS
  | .next 0 ds => ghost [.val 8, .val 9] (10 :: (List.range' 38 21)) (w_floor_L9_E sa ka ca sb kb cb x0 x1 x2 x3 x4 x5 x6).1 (w_floor_L9_E sa ka ca sb kb cb x0 x1 x2 x3 x4 x5 x6).2 63 ds
  | .out 0 ds => ghost w_floor_x9_0.live w_floor_x9_0.junk (w_floor_L9_E sa ka ca sb kb cb x0 x1 x2 x3 x4 x5 x6).1 (w_floor_L9_E sa ka ca sb kb cb x0 x1 x2 x3 x4 x5 x6).2 63 ds
  | _ => none
def w_floor_L9_ex : Nat → Option Nat
  | 0 => w_floor_x9_0.ex
  | _ => none
def w_floor_L9_ax : Go.Ev.Rd → AX
  | .next _ _ => .normal
  | .out j _ => axOf (w_floor_L9_ex j)
def w_floor_L9_S0 (sa : Int) (ka : Nat) (ca : List D) (sb : Int) (kb : Nat) (cb : List D) (x0 : Nat) (x1 : List D) (x2 : Int) (x3 : List D) (x4 : Int) (x5 : Nat) (x6 : List D) (ds : List D) : Option Go.Ev.Rd := pullD (α := Int × Int) (some (.tup ds)) (fun d => ((D.vi (D.at d 0)), (D.vi (D.at d 1)))) (fun (s8, s9) => .tup [iD s8, iD s9]) fun (s8, s9) => ((if s8 < s9 then pullD (α := Int × Nat × (List D)) (m_110 [iD (1 : Int), .list kb cb]) (fun d => ((D.vi (D.at d 0)), (D.ln (D.at d 1)), (D.lc (D.at d 1)))) (fun (r0, k1, c2) => .agg [iD r0, .list k1 c2]) fun (r0, k1, c2) => (pullD (α := Int × Nat × (List D)) (m_92 [iD (IntKind.i64.wrap ((IntKind.i64.wrap (IntKind.i64.wrap (s8 + s9) + (1 : Int))).tdiv (2 : Int)))]) (fun d => ((D.vi (D.at d 0)), (D.ln (D.at d 1)), (D.lc (D.at d 1)))) (fun (r3, k4, c5) => .agg [iD r3, .list k4 c5]) fun (r3, k4, c5) => (pullD (α := Int × Nat × (List D)) (m_94 [.agg [iD r0, .list k1 c2], .agg [iD r3, .list k4 c5]]) (fun d => ((D.vi (D.at d 0)), (D.ln (D.at d 1)), (D.lc (D.at d 1)))) (fun (r6, k7, c8) => .agg [iD r6, .list k7 c8]) fun (r6, k7, c8) => (pullD (α := Int) (m_123 [.list k7 c8, .list x5 x6]) (fun d => ((D.vi d))) (fun r9 => iD r9) fun r9 => ((if r9 ≤ (0 : Int) then some (.next 0 [iD (IntKind.i64.wrap ((IntKind.i64.wrap (IntKind.i64.wrap (s8 + s9) + (1 : Int))).tdiv (2 : Int))), iD s9]) else some (.next 0 [iD s8, iD (IntKind.i64.wrap (IntKind.i64.wrap ((IntKind.i64.wrap (IntKind.i64.wrap (s8 + s9) + (1 : Int))).tdiv (2 : Int)) - (1 : Int)))])))))) else some (.out 0 [iD s8])))
def w_floor_L9_S (sa : Int) (ka : Nat) (ca : List D) (sb : Int) (kb : Nat) (cb : List D) (x0 : Nat) (x1 : List D) (x2 : Int) (x3 : List D) (x4 : Int) (x5 : Nat) (x6 : List D) : Go.Ev.Rd → Option Go.Ev.Rd
  | .next 0 ds => w_floor_L9_S0 sa ka ca sb kb cb x0 x1 x2 x3 x4 x5 x6 ds
  | _ => none
theorem w_floor_L9_S_ok (sa : Int) (ka : Nat) (ca : List D) (sb : Int) (kb : Nat) (cb : List D) (x0 : Nat) (x1 : List D) (x2 : Int) (x3 : List D) (x4 : Int) (x5 : Nat) (x6 : List D) : ∀ s_ t_, w_floor_L9_S sa ka ca sb kb cb x0 x1 x2 x3 x4 x5 x6 s_ = some t_ → Step (ctx [115] w_floor_sp) Tabs w_floor_L9_A (stateOf (w_floor_L9_gs sa ka ca sb kb cb x0 x1 x2 x3 x4 x5 x6 s_)) (stateOf (w_floor_L9_gs sa ka ca sb kb cb x0 x1 x2 x3 x4 x5 x6 t_)) (w_floor_L9_ax t_) ∧ EndOK w_floor_L9_A.nx w_floor_L9_A.low (w_floor_L9_gs sa ka ca sb kb cb x0 x1 x2 x3 x4 x5 x6) t_
  | .next 0 ds, t_, h => by
    have h_ : w_floor_L9_S0 sa ka ca sb kb cb x0 x1 x2 x3 x4 x5 x6 ds = some t_ := h
    clear h
    unfold w_floor_L9_S0 at h_
    obtain ⟨⟨s8, s9⟩, e0, h0⟩ := pullD_elim h_
    clear h_
    obtain rfl := tup_inj e0
    by_cases b1_ : s8 < s9
    · have h2_ := (if_pos b1_).symm.trans h0
      obtain ⟨⟨r0, k1, c2⟩, f3_, h4_⟩ := pullD_elim h2_
      replace f3_ := m_110_ok f3_
      obtain ⟨⟨r3, k4, c5⟩, f5_, h6_⟩ := pullD_elim h4_
      replace f5_ := m_92_ok f5_
      obtain ⟨⟨r6, k7, c8⟩, f7_, h8_⟩ := pullD_elim h6_
      replace f7_ := m_94_ok f7_
      obtain ⟨r9, f9_, h10_⟩ := pullD_elim h8_
      replace f9_ := m_123_ok f9_
      by_cases b11_ : r9 ≤ (0 : Int)
      · have h12_ := (if_pos b11_).symm.trans h10_
        obtain rfl := Option.some.inj h12_
        exact ⟨step_pc 3000 (bT 2 []) [.agg [iD r0, .list k1 c2], .agg [iD r3, .list k4 c5], .agg [iD r6, .list k7 c8], iD r9] [c_d b1_, c_F, c_d b11_] [k_c f3_, k_c f5_, k_c f7_, k_c f9_] _ rfl (by kernel_rfl) (by kernel_rfl) (by kernel_rfl) (by kernel_rfl) (by kernel_rfl) (by kernel_rfl), trivial⟩
      have h12_ := (if_neg b11_).symm.trans h10_
      obtain rfl := Option.some.inj h12_
      exact ⟨step_pc 3000 (bT 1 (bF 1 [])) [.agg [iD r0, .list k1 c2], .agg [iD r3, .list k4 c5], .agg [iD r6, .list k7 c8], iD r9] [c_d b1_, c_F, c_n b11_] [k_c f3_, k_c f5_, k_c f7_, k_c f9_] _ rfl (by kernel_rfl) (by kernel_rfl) (by kernel_rfl) (by kernel_rfl) (by kernel_rfl) (by kernel_rfl), trivial⟩
    have h2_ := (if_neg b1_).symm.trans h0
    obtain rfl := Option.some.inj h2_
    exact ⟨step_pc 3000 (bF 1 []) [] [c_n b1_] [] _ rfl (by kernel_rfl) (by kernel_rfl) (by kernel_rfl) (by kernel_rfl) (by kernel_rfl) (by kernel_rfl), by kernel_rfl, by kernel_rfl⟩
  | .next (_ + 1) _, _, h => by cases h
  | .out _ _, _, h => by cases h
theorem w_floor_L9_go (sa : Int) (ka : Nat) (ca : List D) (sb : Int) (kb : Nat) (cb : List D) (x0 : Nat) (x1 : List D) (x2 : Int) (x3 : List D) (x4 : Int) (x5 : Nat) (x6 : List D) {q : Nat} {ds : List D} {j : Nat} {es : List D} (h : runR (w_floor_L9_S sa ka ca sb kb cb x0 x1 x2 x3 x4 x5 x6) (.next q ds) = some (.out j es)) : Runs (ctx [115] w_floor_sp) Tabs w_floor_L9_A (stateOf (w_floor_L9_gs sa ka ca sb kb cb x0 x1 x2 x3 x4 x5 x6 (.next q ds))) (stateOf (w_floor_L9_gs sa ka ca sb kb cb x0 x1 x2 x3 x4 x5 x6 (.out j es))) (w_floor_L9_ax (.out j es)) ∧ (nxtOf (w_floor_L9_gs sa ka ca sb kb cb x0 x1 x2 x3 x4 x5 x6 (.out j es)), lowGS (w_floor_L9_gs sa ka ca sb kb cb x0 x1 x2 x3 x4 x5 x6 (.out j es))) = (w_floor_L9_A.nx, w_floor_L9_A.low) :=
  runs_of' (good true _ _) w_floor_L9_ok (ax := w_floor_L9_ax) (fun _ _ => rfl) (fun _ _ => axOf_end _) (w_floor_L9_S_ok sa ka ca sb kb cb x0 x1 x2 x3 x4 x5 x6) h
theorem w_floor_L9_in0 (sa : Int) (ka : Nat) (ca : List D) (sb : Int) (kb : Nat) (cb : List D) (x0 : Nat) (x1 : List D) (x2 : Int) (x3 : List D) (x4 : Int) (x5 : Nat) (x6 : List D) {es : List D} (h : runR (w_floor_L9_S sa ka ca sb kb cb x0 x1 x2 x3 x4 x5 x6) (.next 0 [iD ((0 : Int)), iD ((999999999 : Int))]) = some (.out 0 es)) : LoopC (loopAt Try.prog 115 1) (w_floor_L9_E sa ka ca sb kb cb x0 x1 x2 x3 x4 x5 x6) 63 noFrame w_floor_x9_0 es :=
  have r := w_floor_L9_go sa ka ca sb kb cb x0 x1 x2 x3 x4 x5 x6 h
  loopin_as rfl (loop_in (l := w_floor_L9_A) (E := (w_floor_L9_E sa ka ca sb kb cb x0 x1 x2 x3 x4 x5 x6)) (S := stateOf (w_floor_L9_gs sa ka ca sb kb cb x0 x1 x2 x3 x4 x5 x6 (.next 0 [iD ((0 : Int)), iD ((999999999 : Int))]))) (ns := nsOf (w_floor_L9_gs sa ka ca sb kb cb x0 x1 x2 x3 x4 x5 x6 (.next 0 [iD ((0 : Int)), iD ((999999999 : Int))]))) w_floor_L9_ok r.1 r.2 (by kernel_rfl) (by kernel_rfl) (by kernel_rfl) (by kernel_rfl))
def w_floor_L5_E (sa : Int) (ka : Nat) (ca : List D) (sb : Int) (kb : Nat) (cb : List D)  : List AV × AHeap := ([.agg [.pure (.int .i64 sa), .dsl 0], .agg [.pure (.int .i64 sb), .dsl 1], .ptr 2 0, .ptr 3 0, .ptr 4 0, .bsl 5 0 ((ka : Int)).toNat ((ka : Int)).toNat, .dsl 6, .pure (.int .i64 (IntKind.i64.wrap ((ka : Int) - (1 : Int)))), .pure (.tuple #[]), .pure (.tuple #[]), .pure (.tuple #[]), .pure (.tuple #[]), .ptr 2 0, .pure (.int .i64 sa), .pure (.bool (sa == (0 : Int))), .pure (.tuple #[]), .ptr 2 1, .dsl 0, .pure (.int .i64 (ka : Int)), .bsl 5 0 ((ka : Int)).toNat ((ka : Int)).toNat, .dsl 6, .ptr 2 1, .dsl 0, .pure (.int .i64 (ka : Int)), .pure (.int .i64 (IntKind.i64.wrap ((ka : Int) - (1 : Int)))), .pure (.tuple #[]), .pure (.tuple #[]), .pure (.tuple #[]), .pure (.tuple #[]), .pure (.tuple #[]), .pure (.tuple #[]), .pure (.tuple #[]), .pure (.tuple #[]), .pure (.tuple #[]), .pure (.tuple #[]), .pure (.tuple #[]), .pure (.tuple #[]), .pure (.tuple #[]), .pure (.tuple #[]), .pure (.tuple #[]), .pure (.tuple #[]), .pure (.tuple #[]), .pure (.tuple #[]), .pure (.tuple #[]), .pure (.tuple #[]), .pure (.tuple #[]), .pure (.tuple #[]), .pure (.tuple #[]), .pure (.tuple #[]), .pure (.tuple #[]), .pure (.tuple #[]), .pure (.tuple #[]), .pure (.tuple #[]), .pure (.tuple #[]), .pure (.tuple #[]), .pure (.tuple #[]), .pure (.tuple #[]), .pure (.tuple #[]), .pure (.tuple #[]), .pure (.tuple #[]), .pure (.tuple #[]), .pure (.tuple #[]), .pure (.tuple #[]), .pure (.tuple #[]), .pure (.tuple #[]), .pure (.tuple #[]), .pure (.tuple #[]), .pure (.tuple #[]), .pure (.tuple #[]), .pure (.tuple #[]), .pure (.tuple #[]), .pure (.tuple #[]), .pure (.tuple #[]), .pure (.tuple #[]), .pure (.tuple #[]), .pure (.tuple #[]), .pure (.tuple #[]), .pure (.tuple #[]), .pure (.tuple #[]), .pure (.tuple #[]), .pure (.tuple #[]), .pure (.tuple #[]), .pure (.tuple #[]), .pure (.tuple #[]), .pure (.tuple #[]), .pure (.tuple #[]), .pure (.tuple #[]), .pure (.tuple #[])], [(6, { cells := [], opn := none, kind := .deep 0 [] }), (5, { cells := [], opn := none, kind := .big (List.map dCell (List.replicate ((ka : Int)).toNat (Value.int .i64 (0 : Int)).cells.toList).flatten) }), (4, { cells := [.pure (.int .i64 (0 : Int)), .pure (.slice none 0 0)], opn := none, kind := .cells }), (3, { cells := [.pure (.int .i64 sb), .dsl 1], opn := none, kind := .cells }), (2, { cells := [.pure (.int .i64 sa), .dsl 0], opn := none, kind := .cells }), (1, { cells := [], opn := none, kind := .deep kb cb }), (0, { cells := [], opn := none, kind := .deep ka ca })])
def w_floor_L5_A : LoopAt := ⟨115, loopAt Try.prog 115 0, 7, 60, 5, noFrame⟩
theorem w_floor_L5_ok : (w_floor_L5_A).OK := ⟨by show 7 ≤ 60; decide, by show 5 ≤ 7; decide, by kernel_rfl, rfl⟩
def w_floor_L5_gs (sa : Int) (ka : Nat) (ca : List D) (sb : Int) (kb : Nat) (cb : List D)  : Go.Ev.Rd → Option GS
  | .next 0 ds => ghost [.val 6, .val 7, .made 5] (8 :: (9 :: (10 :: (List.range' 25 47)))) (w_floor_L5_E sa ka ca sb kb cb).1 (w_floor_L5_E sa ka ca sb kb cb).2 7 ds
  | .out 0 ds => ghost w_floor_x5_0.live w_floor_x5_0.junk (w_floor_L5_E sa ka ca sb kb cb).1 (w_floor_L5_E sa ka ca sb kb cb).2 7 ds
  | _ => none
def w_floor_L5_ex : Nat → Option Nat
  | 0 => w_floor_x5_0.ex
  | _ => none
def w_floor_L5_ax : Go.Ev.Rd → AX
  | .next _ _ => .normal
  | .out j _ => axOf (w_floor_L5_ex j)
def w_floor_L5_S0 (sa : Int) (ka : Nat) (ca : List D) (sb : Int) (kb : Nat) (cb : List D)  (ds : List D) : Option Go.Ev.Rd := pullD (α := Nat × (List D) × Int × Nat × (List D)) (some (.tup ds)) (fun d => ((D.ln (D.at d 0)), (D.lc (D.at d 0)), (D.vi (D.at d 1)), (D.ln (D.at d 2)), (D.lc (D.at d 2)))) (fun (s6n, s6c, s7, s5n, s5c) => .tup [.list s6n s6c, iD s7, .list s5n s5c]) fun (s6n, s6c, s7, s5n, s5c) => ((if s7 ≥ (0 : Int) then guardP ((0 : Int) ≤ s7 ∧ s7.toNat < ka) (pullD (α := Int) (readD ca (s7.toNat * 1) 1 false) (fun d => ((D.vi d))) (fun v0 => iD v0) fun v0 => (guardP ((∀ (u : D), u ∈ s6c → cellD u) ∧ 0 + 1 ≤ 0 + 1 ∧ (0 + 1 + s6n) * 8 ≤ 140737488355328 ∧ 0 + 1 + s6n ≤ 4611686018427387904) (guardP (s6c.length = s6n * 1) (guardP ((0 + (0 + 1 + s6n)) * 1 ≤ (List.take ((0 + 1) * 1) [dCell (.int .i64 v0)] ++ s6c).length ∧ 0 < 1) (guardP ((0 : Int) ≤ s7 ∧ s7.toNat < ((ka : Int)).toNat) (pullD (α := Nat × (List D)) (m_120 [.list (0 + 1 + s6n) (iD v0 :: s6c)]) (fun d => ((D.ln d), (D.lc d))) (fun (k1, c2) => .list k1 c2) fun (k1, c2) => (bindL (runR (w_floor_L9_S sa ka ca sb kb cb s6n s6c s7 s5c v0 k1 c2) (.next 0 [iD ((0 : Int)), iD ((999999999 : Int))])) fun j ds => (if j = 0 then pullD (α := Int) (some (.tup ds)) (fun d => ((D.vi (D.at d 0)))) (fun l3 => .tup [iD l3]) fun l3 => (guardP (0 + s7.toNat * 1 + 1 ≤ s5c.length ∧ ∀ (u : D), u ∈ [dCell (.int .i64 l3)] → cellD u) (pullD (α := Int × Nat × (List D)) (m_110 [iD (1 : Int), .list kb cb]) (fun d => ((D.vi (D.at d 0)), (D.ln (D.at d 1)), (D.lc (D.at d 1)))) (fun (r4, k5, c6) => .agg [iD r4, .list k5 c6]) fun (r4, k5, c6) => (pullD (α := Int × Nat × (List D)) (m_92 [iD l3]) (fun d => ((D.vi (D.at d 0)), (D.ln (D.at d 1)), (D.lc (D.at d 1)))) (fun (r7, k8, c9) => .agg [iD r7, .list k8 c9]) fun (r7, k8, c9) => (pullD (α := Int × Nat × (List D)) (m_94 [.agg [iD r4, .list k5 c6], .agg [iD r7, .list k8 c9]]) (fun d => ((D.vi (D.at d 0)), (D.ln (D.at d 1)), (D.lc (D.at d 1)))) (fun (r10, k11, c12) => .agg [iD r10, .list k11 c12]) fun (r10, k11, c12) => (pullD (α := Nat × (List D)) (m_124 [.list k1 c2, .list k11 c12]) (fun d => ((D.ln d), (D.lc d))) (fun (k13, c14) => .list k13 c14) fun (k13, c14) => (some (.next 0 [.list k13 c14, iD (IntKind.i64.wrap (s7 - (1 : Int))), .list ((ka : Int)).toNat (List.append (List.take (0 + s7.toNat * 1) s5c ++ [dCell (.int .i64 l3)]) (List.drop (0 + s7.toNat * 1 + [dCell (.int .i64 l3)].length) s5c))]))))))) else none)))))))) else some (.out 0 [.list s6n s6c, .list ((ka : Int)).toNat s5c])))
def w_floor_L5_S (sa : Int) (ka : Nat) (ca : List D) (sb : Int) (kb : Nat) (cb : List D)  : Go.Ev.Rd → Option Go.Ev.Rd
  | .next 0 ds => w_floor_L5_S0 sa ka ca sb kb cb ds
  | _ => none
theorem w_floor_L5_S_ok (sa : Int) (ka : Nat) (ca : List D) (sb : Int) (kb : Nat) (cb : List D)  : ∀ s_ t_, w_floor_L5_S sa ka ca sb kb cb s_ = some t_ → Step (ctx [115] w_floor_sp) Tabs w_floor_L5_A (stateOf (w_floor_L5_gs sa ka ca sb kb cb s_)) (stateOf (w_floor_L5_gs sa ka ca sb kb cb t_)) (w_floor_L5_ax t_) ∧ EndOK w_floor_L5_A.nx w_floor_L5_A.low (w_floor_L5_gs sa ka ca sb kb cb) t_
  | .next 0 ds, t_, h => by
    have h_ : w_floor_L5_S0 sa ka ca sb kb cb ds = some t_ := h
    clear h
    unfold w_floor_L5_S0 at h_
    obtain ⟨⟨s6n, s6c, s7, s5n, s5c⟩, e0, h0⟩ := pullD_elim h_
    clear h_
    obtain rfl := tup_inj e0
    by_cases b1_ : s7 ≥ (0 : Int)
    · have h2_ := (if_pos b1_).symm.trans h0
      obtain ⟨f3_, h4_⟩ := guardP_elim h2_
      obtain ⟨v0, f5_, h6_⟩ := pullD_elim h4_
      replace f5_ := readD_elim f5_
      obtain ⟨f7_, h8_⟩ := guardP_elim h6_
      obtain ⟨f9_, h10_⟩ := guardP_elim h8_
      obtain ⟨f11_, h12_⟩ := guardP_elim h10_
      obtain ⟨f13_, h14_⟩ := guardP_elim h12_
      obtain ⟨⟨k1, c2⟩, f15_, h16_⟩ := pullD_elim h14_
      replace f15_ := m_120_ok f15_
      obtain ⟨j, ds, e17_, h18_⟩ := bindL_elim h16_
      by_cases j19_ : j = 0
      · have h22_ := (if_pos j19_).symm.trans h18_
        clear h18_
        subst j19_
        obtain ⟨l3, e20_, h23_⟩ := pullD_elim h22_
        clear h22_
        obtain rfl := tup_inj e20_
        have k21_ := w_floor_L9_in0 sa ka ca sb kb cb s6n s6c s7 s5c v0 k1 c2 e17_
        obtain ⟨f24_, h25_⟩ := guardP_elim h23_
        obtain ⟨⟨r4, k5, c6⟩, f26_, h27_⟩ := pullD_elim h25_
        replace f26_ := m_110_ok f26_
        obtain ⟨⟨r7, k8, c9⟩, f28_, h29_⟩ := pullD_elim h27_
        replace f28_ := m_92_ok f28_
        obtain ⟨⟨r10, k11, c12⟩, f30_, h31_⟩ := pullD_elim h29_
        replace f30_ := m_94_ok f30_
        obtain ⟨⟨k13, c14⟩, f32_, h33_⟩ := pullD_elim h31_
        replace f32_ := m_124_ok f32_
        obtain rfl := Option.some.inj h33_
        exact ⟨step_pc 3000 (bT 1 []) [iD v0, .list k1 c2, .tup [iD (Int.ofNat 0), iD l3], .agg [iD r4, .list k5 c6], .agg [iD r7, .list k8 c9], .agg [iD r10, .list k11 c12], .list k13 c14] [c_d b1_, c_f f3_, c_f f5_, c_f f7_, c_f f9_, c_f f11_, c_f f13_, c_f f24_] [k_c f15_, k_l k21_ [] [.tup [iD (Int.ofNat 0), iD l3], .agg [iD r4, .list k5 c6], .agg [iD r7, .list k8 c9], .agg [iD r10, .list k11 c12], .list k13 c14] [.agg [iD r4, .list k5 c6], .agg [iD r7, .list k8 c9], .agg [iD r10, .list k11 c12], .list k13 c14], k_c f26_, k_c f28_, k_c f30_, k_c f32_] _ rfl (by kernel_rfl) (by kernel_rfl) (by kernel_rfl) (by kernel_rfl) (by kernel_rfl) (by kernel_rfl), trivial⟩
      have h34_ := (if_neg j19_).symm.trans h18_
      clear h18_
      cases h34_
    have h2_ := (if_neg b1_).symm.trans h0
    obtain rfl := Option.some.inj h2_
    exact ⟨step_pc 3000 (bF 1 []) [] [c_n b1_] [] _ rfl (by kernel_rfl) (by kernel_rfl) (by kernel_rfl) (by kernel_rfl) (by kernel_rfl) (by kernel_rfl), by kernel_rfl, by kernel_rfl⟩
  | .next (_ + 1) _, _, h => by cases h
  | .out _ _, _, h => by cases h
theorem w_floor_L5_go (sa : Int) (ka : Nat) (ca : List D) (sb : Int) (kb : Nat) (cb : List D)  {q : Nat} {ds : List D} {j : Nat} {es : List D} (h : runR (w_floor_L5_S sa ka ca sb kb cb) (.next q ds) = some (.out j es)) : Runs (ctx [115] w_floor_sp) Tabs w_floor_L5_A (stateOf (w_floor_L5_gs sa ka ca sb kb cb (.next q ds))) (stateOf (w_floor_L5_gs sa ka ca sb kb cb (.out j es))) (w_floor_L5_ax (.out j es)) ∧ (nxtOf (w_floor_L5_gs sa ka ca sb kb cb (.out j es)), lowGS (w_floor_L5_gs sa ka ca sb kb cb (.out j es))) = (w_floor_L5_A.nx, w_floor_L5_A.low) :=
  runs_of' (good true _ _) w_floor_L5_ok (ax := w_floor_L5_ax) (fun _ _ => rfl) (fun _ _ => axOf_end _) (w_floor_L5_S_ok sa ka ca sb kb cb) h
theorem w_floor_L5_in0 (sa : Int) (ka : Nat) (ca : List D) (sb : Int) (kb : Nat) (cb : List D)  {es : List D} (h : runR (w_floor_L5_S sa ka ca sb kb cb) (.next 0 [.list (0) ([]), iD ((IntKind.i64.wrap ((ka : Int) - (1 : Int)))), .list (((ka : Int)).toNat) ((List.map dCell (List.replicate ((ka : Int)).toNat (Value.int .i64 (0 : Int)).cells.toList).flatten))]) = some (.out 0 es)) : LoopC (loopAt Try.prog 115 0) (w_floor_L5_E sa ka ca sb kb cb) 7 noFrame w_floor_x5_0 es :=
  have r := w_floor_L5_go sa ka ca sb kb cb h
  loopin_as rfl (loop_in (l := w_floor_L5_A) (E := (w_floor_L5_E sa ka ca sb kb cb)) (S := stateOf (w_floor_L5_gs sa ka ca sb kb cb (.next 0 [.list (0) ([]), iD ((IntKind.i64.wrap ((ka : Int) - (1 : Int)))), .list (((ka : Int)).toNat) ((List.map dCell (List.replicate ((ka : Int)).toNat (Value.int .i64 (0 : Int)).cells.toList).flatten))]))) (ns := nsOf (w_floor_L5_gs sa ka ca sb kb cb (.next 0 [.list (0) ([]), iD ((IntKind.i64.wrap ((ka : Int) - (1 : Int)))), .list (((ka : Int)).toNat) ((List.map dCell (List.replicate ((ka : Int)).toNat (Value.int .i64 (0 : Int)).cells.toList).flatten))]))) w_floor_L5_ok r.1 r.2 (by kernel_rfl) (by kernel_rfl) (by kernel_rfl) (by kernel_rfl))
def w_floor_M (sa : Int) (ka : Nat) (ca : List D) (sb : Int) (kb : Nat) (cb : List D) : Option D := (if sa = (0 : Int) then some (.agg [iD (0 : Int), .list 0 []]) else guardP ((0 : Int) ≤ (ka : Int) ∧ (ka : Int) ≤ (ka : Int) ∧ 8 * ((ka : Int)).toNat ≤ 140737488355328 ∧ ((ka : Int)).toNat ≤ 140737488355328) (guardP (((ka : Int)).toNat ≤ ((ka : Int)).toNat) (bindL (runR (w_floor_L5_S sa ka ca sb kb cb) (.next 0 [.list (0) ([]), iD ((IntKind.i64.wrap ((ka : Int) - (1 : Int)))), .list (((ka : Int)).toNat) ((List.map dCell (List.replicate ((ka : Int)).toNat (Value.int .i64 (0 : Int)).cells.toList).flatten))])) fun j ds => (if j = 0 then pullD (α := Nat × (List D) × Nat × (List D)) (some (.tup ds)) (fun d => ((D.ln (D.at d 0)), (D.lc (D.at d 0)), (D.ln (D.at d 1)), (D.lc (D.at d 1)))) (fun (k0, c1, k2, c3) => .tup [.list k0 c1, .list k2 c3]) fun (k0, c1, k2, c3) => (pullD (α := Int × Nat × (List D)) (m_110 [iD sa, .list ((ka : Int)).toNat c3]) (fun d => ((D.vi (D.at d 0)), (D.ln (D.at d 1)), (D.lc (D.at d 1)))) (fun (r4, k5, c6) => .agg [iD r4, .list k5 c6]) fun (r4, k5, c6) => ((if sa < (0 : Int) then (if (k0 : Int) > (0 : Int) then pullD (α := Int × Nat × (List D)) (m_92 [iD (1 : Int)]) (fun d => ((D.vi (D.at d 0)), (D.ln (D.at d 1)), (D.lc (D.at d 1)))) (fun (r7, k8, c9) => .agg [iD r7, .list k8 c9]) fun (r7, k8, c9) => (pullD (α := Int × Nat × (List D)) (m_122 [.agg [iD r4, .list k5 c6], .agg [iD r7, .list k8 c9]]) (fun d => ((D.vi (D.at d 0)), (D.ln (D.at d 1)), (D.lc (D.at d 1)))) (fun (r10, k11, c12) => .agg [iD r10, .list k11 c12]) fun (r10, k11, c12) => (some (.agg [iD r10, .list k11 c12]))) else some (.agg [iD r4, .list k5 c6])) else some (.agg [iD r4, .list k5 c6])))) else none))))
theorem w_floor_M_ok (sa : Int) (ka : Nat) (ca : List D) (sb : Int) (kb : Nat) (cb : List D) {r : D} (h : w_floor_M sa ka ca sb kb cb = some r) : Con 115 [.agg [iD sa, .list ka ca], .agg [iD sb, .list kb cb]] r := by
  unfold w_floor_M at h
  by_cases b1_ : sa = (0 : Int)
  · have h2_ := (if_pos b1_).symm.trans h
    obtain rfl := Option.some.inj h2_
    exact con_pc (op := true) (I := [115]) (sp := w_floor_sp) 3000 (bT 1 []) [] [c_e b1_] [] (by kernel_rfl)
  have h2_ := (if_neg b1_).symm.trans h
  have b3_ : sa ≠ (0 : Int) := by first | exact b1_ | simpa using b1_
  obtain ⟨f4_, h5_⟩ := guardP_elim h2_
  obtain ⟨f6_, h7_⟩ := guardP_elim h5_
  obtain ⟨j, ds, e8_, h9_⟩ := bindL_elim h7_
  by_cases j10_ : j = 0
  · have h13_ := (if_pos j10_).symm.trans h9_
    clear h9_
    subst j10_
    obtain ⟨⟨k0, c1, k2, c3⟩, e11_, h14_⟩ := pullD_elim h13_
    clear h13_
    obtain rfl := tup_inj e11_
    have k12_ := w_floor_L5_in0 sa ka ca sb kb cb e8_
    obtain ⟨⟨r4, k5, c6⟩, f15_, h16_⟩ := pullD_elim h14_
    replace f15_ := m_110_ok f15_
    by_cases b17_ : sa < (0 : Int)
    · have h18_ := (if_pos b17_).symm.trans h16_
      by_cases b19_ : (k0 : Int) > (0 : Int)
      · have h20_ := (if_pos b19_).symm.trans h18_
        obtain ⟨⟨r7, k8, c9⟩, f21_, h22_⟩ := pullD_elim h20_
        replace f21_ := m_92_ok f21_
        obtain ⟨⟨r10, k11, c12⟩, f23_, h24_⟩ := pullD_elim h22_
        replace f23_ := m_122_ok f23_
        obtain rfl := Option.some.inj h24_
        exact con_pc (op := true) (I := [115]) (sp := w_floor_sp) 3000 (bF 1 (bT 5 [])) [.tup [iD (Int.ofNat 0), .list k0 c1, .list k2 c3], .agg [iD r4, .list k5 c6], .agg [iD r7, .list k8 c9], .agg [iD r10, .list k11 c12]] [c_en b3_, c_f f4_, c_f f6_, c_d b17_, c_d b17_, c_d b17_, c_d b17_, c_d b19_] [k_l k12_ (bT 5 []) [.tup [iD (Int.ofNat 0), .list k0 c1, .list k2 c3], .agg [iD r4, .list k5 c6], .agg [iD r7, .list k8 c9], .agg [iD r10, .list k11 c12]] [.agg [iD r4, .list k5 c6], .agg [iD r7, .list k8 c9], .agg [iD r10, .list k11 c12]], k_c f15_, k_c f21_, k_c f23_] (by kernel_rfl)
      have h20_ := (if_neg b19_).symm.trans h18_
      obtain rfl := Option.some.inj h20_
      exact con_pc (op := true) (I := [115]) (sp := w_floor_sp) 3000 (bF 1 (bT 4 (bF 1 []))) [.tup [iD (Int.ofNat 0), .list k0 c1, .list k2 c3], .agg [iD r4, .list k5 c6]] [c_en b3_, c_f f4_, c_f f6_, c_d b17_, c_d b17_, c_d b17_, c_d b17_, c_n b19_] [k_l k12_ (bT 4 (bF 1 [])) [.tup [iD (Int.ofNat 0), .list k0 c1, .list k2 c3], .agg [iD r4, .list k5 c6]] [.agg [iD r4, .list k5 c6]], k_c f15_] (by kernel_rfl)
    have h18_ := (if_neg b17_).symm.trans h16_
    obtain rfl := Option.some.inj h18_
    exact con_pc (op := true) (I := [115]) (sp := w_floor_sp) 3000 (bF 6 []) [.tup [iD (Int.ofNat 0), .list k0 c1, .list k2 c3], .agg [iD r4, .list k5 c6]] [c_en b3_, c_f f4_, c_f f6_, c_n b17_, c_n b17_, c_n b17_, c_n b17_, c_F] [k_l k12_ (bF 5 []) [.tup [iD (Int.ofNat 0), .list k0 c1, .list k2 c3], .agg [iD r4, .list k5 c6]] [.agg [iD r4, .list k5 c6]], k_c f15_] (by kernel_rfl)
  have h25_ := (if_neg j10_).symm.trans h9_
  clear h9_
  cases h25_
def m_115 (ds : List D) : Option D := pullD (α := Int × Nat × (List D) × Int × Nat × (List D)) (some (.tup ds)) (fun d => ((D.vi (D.at (D.at d 0) 0)), (D.ln (D.at (D.at d 0) 1)), (D.lc (D.at (D.at d 0) 1)), (D.vi (D.at (D.at d 1) 0)), (D.ln (D.at (D.at d 1) 1)), (D.lc (D.at (D.at d 1) 1)))) (fun (sa, ka, ca, sb, kb, cb) => .tup [.agg [iD sa, .list ka ca], .agg [iD sb, .list kb cb]]) fun (sa, ka, ca, sb, kb, cb) => w_floor_M sa ka ca sb kb cb
theorem m_115_ok {ds : List D} {r : D} (h : m_115 ds = some r) : Con 115 ds r := by
  unfold m_115 at h
  obtain ⟨⟨sa, ka, ca, sb, kb, cb⟩, e0, h0⟩ := pullD_elim h
  obtain rfl := tup_inj e0
  exact w_floor_M_ok sa ka ca sb kb cb h0
theorem m_115_eq (sa : Int) (ka : Nat) (ca : List D) (sb : Int) (kb : Nat) (cb : List D) : m_115 [.agg [iD sa, .list ka ca], .agg [iD sb, .list kb cb]] = w_floor_M sa ka ca sb kb cb := pullD_some (sa, ka, ca, sb, kb, cb) rfl rfl
def w_int_x5_0 : LExit := ⟨some 0, [.val 4], (5 :: (List.range' 14 12))⟩
def w_int_sp : List LSpec := [⟨96, 5, [w_int_x5_0]⟩]
def w_int_L5_E (sa : Int) (ka : Nat) (ca : List D)  : List AV × AHeap := ([.agg [.pure (.int .i64 sa), .dsl 0], .ptr 1 0, .pure (.int .i64 (0 : Int)), .pure (.bool false), .pure (.int .i64 (0 : Int)), .pure (.int .i64 (IntKind.i64.wrap ((ka : Int) - (1 : Int)))), .ptr 1 1, .dsl 0, .pure (.int .i64 (ka : Int)), .pure (.bool (decide ((ka : Int) > (2 : Int)))), .ptr 1 1, .dsl 0, .pure (.int .i64 (ka : Int)), .pure (.int .i64 (IntKind.i64.wrap ((ka : Int) - (1 : Int)))), .pure (.tuple #[]), .pure (.tuple #[]), .pure (.tuple #[]), .pure (.tuple #[]), .pure (.tuple #[]), .pure (.tuple #[]), .pure (.tuple #[]), .pure (.tuple #[]), .pure (.tuple #[]), .pure (.tuple #[]), .pure (.tuple #[]), .pure (.tuple #[]), .pure (.tuple #[]), .pure (.tuple #[]), .pure (.tuple #[]), .pure (.tuple #[])], [(1, { cells := [.pure (.int .i64 sa), .dsl 0], opn := none, kind := .cells }), (0, { cells := [], opn := none, kind := .deep ka ca })])
def w_int_L5_A : LoopAt := ⟨96, loopAt Try.prog 96 0, 2, 16, 2, noFrame⟩
theorem w_int_L5_ok : (w_int_L5_A).OK := ⟨by show 2 ≤ 16; decide, by show 2 ≤ 2; decide, by kernel_rfl, rfl⟩
def w_int_L5_gs (sa : Int) (ka : Nat) (ca : List D)  : Go.Ev.Rd → Option GS
  | .next 0 ds => ghost [.val 4, .val 5] (List.range' 14 12) (w_int_L5_E sa ka ca).1 (w_int_L5_E sa ka ca).2 2 ds
  | .out 0 ds => ghost w_int_x5_0.live w_int_x5_0.junk (w_int_L5_E sa ka ca).1 (w_int_L5_E sa ka ca).2 2 ds
  | _ => none
def w_int_L5_ex : Nat → Option Nat
  | 0 => w_int_x5_0.ex
  | _ => none
def w_int_L5_ax : Go.Ev.Rd → AX
  | .next _ _ => .normal
  | .out j _ => axOf (w_int_L5_ex j)
def w_int_L5_S0 (sa : Int) (ka : Nat) (ca : List D)  (ds : List D) : Option Go.Ev.Rd := pullD (α := Int × Int) (some (.tup ds)) (fun d => ((D.vi (D.at d 0)), (D.vi (D.at d 1)))) (fun (s4, s5) => .tup [iD s4, iD s5]) fun (s4, s5) => ((if s5 ≥ (0 : Int) then guardP ((0 : Int) ≤ s5 ∧ s5.toNat < ka) (pullD (α := Int) (readD ca (s5.toNat * 1) 1 false) (fun d => ((D.vi d))) (fun v0 => iD v0) fun v0 => (some (.next 0 [iD (IntKind.i64.wrap (IntKind.i64.wrap (s4 * (1000000000 : Int)) + v0)), iD (IntKind.i64.wrap (s5 - (1 : Int)))]))) else some (.out 0 [iD s4])))
def w_int_L5_S (sa : Int) (ka : Nat) (ca : List D)  : Go.Ev.Rd → Option Go.Ev.Rd
  | .next 0 ds => w_int_L5_S0 sa ka ca ds
  | _ => none
theorem w_int_L5_S_0 (sa : Int) (ka : Nat) (ca : List D)  (ds : List D) : w_int_L5_S sa ka ca (.next 0 ds) = w_int_L5_S0 sa ka ca ds := rfl
theorem w_int_L5_S_ok (sa : Int) (ka : Nat) (ca : List D)  : ∀ s_ t_, w_int_L5_S sa ka ca s_ = some t_ → Step (ctx [96] w_int_sp) Tabs w_int_L5_A (stateOf (w_int_L5_gs sa ka ca s_)) (stateOf (w_int_L5_gs sa ka ca t_)) (w_int_L5_ax t_) ∧ EndOK w_int_L5_A.nx w_int_L5_A.low (w_int_L5_gs sa ka ca) t_
  | .next 0 ds, t_, h => by
    have h_ : w_int_L5_S0 sa ka ca ds = some t_ := h
    clear h
    unfold w_int_L5_S0 at h_
    obtain ⟨⟨s4, s5⟩, e0, h0⟩ := pullD_elim h_
    clear h_
    obtain rfl := tup_inj e0
    by_cases b1_ : s5 ≥ (0 : Int)
    · have h2_ := (if_pos b1_).symm.trans h0
      obtain ⟨f3_, h4_⟩ := guardP_elim h2_
      obtain ⟨v0, f5_, h6_⟩ := pullD_elim h4_
      replace f5_ := readD_elim f5_
      obtain rfl := Option.some.inj h6_
      exact ⟨step_pc 3000 (bT 1 []) [iD v0] [c_d b1_, c_f f3_, c_f f5_] [] _ rfl (by kernel_rfl) (by kernel_rfl) (by kernel_rfl) (by kernel_rfl) (by kernel_rfl) (by kernel_rfl), trivial⟩
    have h2_ := (if_neg b1_).symm.trans h0
    obtain rfl := Option.some.inj h2_
    exact ⟨step_pc 3000 (bF 1 []) [] [c_n b1_] [] _ rfl (by kernel_rfl) (by kernel_rfl) (by kernel_rfl) (by kernel_rfl) (by kernel_rfl) (by kernel_rfl), by kernel_rfl, by kernel_rfl⟩
  | .next (_ + 1) _, _, h => by cases h
  | .out _ _, _, h => by cases h
theorem w_int_L5_go (sa : Int) (ka : Nat) (ca : List D)  {q : Nat} {ds : List D} {j : Nat} {es : List D} (h : runR (w_int_L5_S sa ka ca) (.next q ds) = some (.out j es)) : Runs (ctx [96] w_int_sp) Tabs w_int_L5_A (stateOf (w_int_L5_gs sa ka ca (.next q ds))) (stateOf (w_int_L5_gs sa ka ca (.out j es))) (w_int_L5_ax (.out j es)) ∧ (nxtOf (w_int_L5_gs sa ka ca (.out j es)), lowGS (w_int_L5_gs sa ka ca (.out j es))) = (w_int_L5_A.nx, w_int_L5_A.low) :=
  runs_of' (good true _ _) w_int_L5_ok (ax := w_int_L5_ax) (fun _ _ => rfl) (fun _ _ => axOf_end _) (w_int_L5_S_ok sa ka ca) h
theorem w_int_L5_in0 (sa : Int) (ka : Nat) (ca : List D)  {es : List D} (h : runR (w_int_L5_S sa ka ca) (.next 0 [iD ((0 : Int)), iD ((IntKind.i64.wrap ((ka : Int) - (1 : Int))))]) = some (.out 0 es)) : LoopC (loopAt Try.prog 96 0) (w_int_L5_E sa ka ca) 2 noFrame w_int_x5_0 es :=
  have r := w_int_L5_go sa ka ca h
  loopin_as rfl (loop_in (l := w_int_L5_A) (E := (w_int_L5_E sa ka ca)) (S := stateOf (w_int_L5_gs sa ka ca (.next 0 [iD ((0 : Int)), iD ((IntKind.i64.wrap ((ka : Int) - (1 : Int))))]))) (ns := nsOf (w_int_L5_gs sa ka ca (.next 0 [iD ((0 : Int)), iD ((IntKind.i64.wrap ((ka : Int) - (1 : Int))))]))) w_int_L5_ok r.1 r.2 (by kernel_rfl) (by kernel_rfl) (by kernel_rfl) (by kernel_rfl))
def w_int_M (sa : Int) (ka : Nat) (ca : List D) : Option D := (if (ka : Int) > (2 : Int) then some (.tup [iD (0 : Int), .one (.bool false)]) else bindL (runR (w_int_L5_S sa ka ca) (.next 0 [iD ((0 : Int)), iD ((IntKind.i64.wrap ((ka : Int) - (1 : Int))))])) fun j ds => (if j = 0 then pullD (α := Int) (some (.tup ds)) (fun d => ((D.vi (D.at d 0)))) (fun l0 => .tup [iD l0]) fun l0 => (some (.tup [iD (IntKind.i64.wrap (sa * l0)), .one (.bool true)])) else none))
theorem w_int_M_ok (sa : Int) (ka : Nat) (ca : List D) {r : D} (h : w_int_M sa ka ca = some r) : Con 96 [.agg [iD sa, .list ka ca]] r := by
  unfold w_int_M at h
  by_cases b1_ : (ka : Int) > (2 : Int)
  · have h2_ := (if_pos b1_).symm.trans h
    obtain rfl := Option.some.inj h2_
    exact con_pc (op := true) (I := [96]) (sp := w_int_sp) 3000 (bT 1 []) [] [c_d b1_] [] (by kernel_rfl)
  have h2_ := (if_neg b1_).symm.trans h
  obtain ⟨j, ds, e3_, h4_⟩ := bindL_elim h2_
  by_cases j5_ : j = 0
  · have h8_ := (if_pos j5_).symm.trans h4_
    clear h4_
    subst j5_
    obtain ⟨l0, e6_, h9_⟩ := pullD_elim h8_
    clear h8_
    obtain rfl := tup_inj e6_
    have k7_ := w_int_L5_in0 sa ka ca e3_
    obtain rfl := Option.some.inj h9_
    exact con_pc (op := true) (I := [96]) (sp := w_int_sp) 3000 (bF 1 []) [.tup [iD (Int.ofNat 0), iD l0]] [c_n b1_] [k_l k7_ [] [.tup [iD (Int.ofNat 0), iD l0]] []] (by kernel_rfl)
  have h10_ := (if_neg j5_).symm.trans h4_
  clear h4_
  cases h10_
def m_96 (ds : List D) : Option D := pullD (α := Int × Nat × (List D)) (some (.tup ds)) (fun d => ((D.vi (D.at (D.at d 0) 0)), (D.ln (D.at (D.at d 0) 1)), (D.lc (D.at (D.at d 0) 1)))) (fun (sa, ka, ca) => .tup [.agg [iD sa, .list ka ca]]) fun (sa, ka, ca) => w_int_M sa ka ca
theorem m_96_ok {ds : List D} {r : D} (h : m_96 ds = some r) : Con 96 ds r := by
  unfold m_96 at h
  obtain ⟨⟨sa, ka, ca⟩, e0, h0⟩ := pullD_elim h
  obtain rfl := tup_inj e0
  exact w_int_M_ok sa ka ca h0
theorem m_96_eq (sa : Int) (ka : Nat) (ca : List D) : m_96 [.agg [iD sa, .list ka ca]] = w_int_M sa ka ca := pullD_some (sa, ka, ca) rfl rfl
def w_size_sp : List LSpec := []
def w_size_M (sa : Int) (ka : Nat) (ca : List D) : Option D := (if sa < (0 : Int) then pullD (α := Int × Nat × (List D)) (m_112 [.agg [iD sa, .list ka ca]]) (fun d => ((D.vi (D.at d 0)), (D.ln (D.at d 1)), (D.lc (D.at d 1)))) (fun (r0, k1, c2) => .agg [iD r0, .list k1 c2]) fun (r0, k1, c2) => (some (.agg [iD r0, .list k1 c2])) else some (.agg [iD sa, .list ka ca]))
theorem w_size_M_ok (sa : Int) (ka : Nat) (ca : List D) {r : D} (h : w_size_M sa ka ca = some r) : Con 121 [.agg [iD sa, .list ka ca]] r := by
  unfold w_size_M at h
  by_cases b1_ : sa < (0 : Int)
  · have h2_ := (if_pos b1_).symm.trans h
    obtain ⟨⟨r0, k1, c2⟩, f3_, h4_⟩ := pullD_elim h2_
    replace f3_ := m_112_ok f3_
    obtain rfl := Option.some.inj h4_
    exact con_pc (op := true) (I := [121]) (sp := w_size_sp) 3000 (bT 1 []) [.agg [iD r0, .list k1 c2]] [c_d b1_] [k_c f3_] (by kernel_rfl)
  have h2_ := (if_neg b1_).symm.trans h
  obtain rfl := Option.some.inj h2_
  exact con_pc (op := true) (I := [121]) (sp := w_size_sp) 3000 (bF 1 []) [] [c_n b1_] [] (by kernel_rfl)
def m_121 (ds : List D) : Option D := pullD (α := Int × Nat × (List D)) (some (.tup ds)) (fun d => ((D.vi (D.at (D.at d 0) 0)), (D.ln (D.at (D.at d 0) 1)), (D.lc (D.at (D.at d 0) 1)))) (fun (sa, ka, ca) => .tup [.agg [iD sa, .list ka ca]]) fun (sa, ka, ca) => w_size_M sa ka ca
theorem m_121_ok {ds : List D} {r : D} (h : m_121 ds = some r) : Con 121 ds r := by
  unfold m_121 at h
  obtain ⟨⟨sa, ka, ca⟩, e0, h0⟩ := pullD_elim h
  obtain rfl := tup_inj e0
  exact w_size_M_ok sa ka ca h0
theorem m_121_eq (sa : Int) (ka : Nat) (ca : List D) : m_121 [.agg [iD sa, .list ka ca]] = w_size_M sa ka ca := pullD_some (sa, ka, ca) rfl rfl
def w_gcd_x2_0 : LExit := ⟨some 0, [.cval 2 0, .cval 2 1, .cval 3 0, .cval 3 1], (5 :: (List.range' 10 12))⟩
def w_gcd_sp : List LSpec := [⟨113, 2, [w_gcd_x2_0]⟩]
def w_gcd_L2_E (sa : Int) (ka : Nat) (ca : List D) (sb : Int) (kb : Nat) (cb : List D) (x0 : Int) (x1 : Nat) (x2 : List D) (x3 : Int) (x4 : Nat) (x5 : List D) : List AV × AHeap := ([.agg [.pure (.int .i64 sa), .dsl 0], .agg [.pure (.int .i64 sb), .dsl 1], .ptr 2 0, .ptr 3 0, .ptr 4 0, .pure (.tuple #[]), .agg [.pure (.int .i64 sa), .dsl 0], .agg [.pure (.int .i64 x0), .dsl 5], .agg [.pure (.int .i64 sb), .dsl 1], .agg [.pure (.int .i64 x3), .dsl 6], .pure (.tuple #[]), .pure (.tuple #[]), .pure (.tuple #[]), .pure (.tuple #[]), .pure (.tuple #[]), .pure (.tuple #[]), .pure (.tuple #[]), .pure (.tuple #[]), .pure (.tuple #[]), .pure (.tuple #[]), .pure (.tuple #[]), .pure (.tuple #[]), .pure (.tuple #[])], [(6, { cells := [], opn := none, kind := .deep x4 x5 }), (5, { cells := [], opn := none, kind := .deep x1 x2 }), (4, { cells := [.pure (.int .i64 (0 : Int)), .pure (.slice none 0 0)], opn := none, kind := .cells }), (3, { cells := [.pure (.int .i64 x3), .dsl 6], opn := none, kind := .cells }), (2, { cells := [.pure (.int .i64 x0), .dsl 5], opn := none, kind := .cells }), (1, { cells := [], opn := none, kind := .deep kb cb }), (0, { cells := [], opn := none, kind := .deep ka ca })])
def w_gcd_L2_A : LoopAt := ⟨113, loopAt Try.prog 113 0, 7, 24, 2, noFrame⟩
theorem w_gcd_L2_ok : (w_gcd_L2_A).OK := ⟨by show 7 ≤ 24; decide, by show 2 ≤ 7; decide, by kernel_rfl, rfl⟩
def w_gcd_L2_gs (sa : Int) (ka : Nat) (ca : List D) (sb : Int) (kb : Nat) (cb : List D) (x0 : Int) (x1 : Nat) (x2 : List D) (x3 : Int) (x4 : Nat) (x5 : List D) : Go.Ev.Rd → Option GS
  | .next 0 ds => ghost [.cval 2 0, .cval 2 1, .cval 3 0, .cval 3 1] (5 :: (List.range' 10 12)) (w_gcd_L2_E sa ka ca sb kb cb x0 x1 x2 x3 x4 x5).1 (w_gcd_L2_E sa ka ca sb kb cb x0 x1 x2 x3 x4 x5).2 7 ds
  | .out 0 ds => ghost w_gcd_x2_0.live w_gcd_x2_0.junk (w_gcd_L2_E sa ka ca sb kb cb x0 x1 x2 x3 x4 x5).1 (w_gcd_L2_E sa ka ca sb kb cb x0 x1 x2 x3 x4 x5).2 7 ds
  | _ => none
def w_gcd_L2_ex : Nat → Option Nat
  | 0 => w_gcd_x2_0.ex
  | _ => none
def w_gcd_L2_ax : Go.Ev.Rd → AX
  | .next _ _ => .normal
  | .out j _ => axOf (w_gcd_L2_ex j)
def w_gcd_L2_S0 (sa : Int) (ka : Nat) (ca : List D) (sb : Int) (kb : Nat) (cb : List D) (x0 : Int) (x1 : Nat) (x2 : List D) (x3 : Int) (x4 : Nat) (x5 : List D) (ds : List D) : Option Go.Ev.Rd := pullD (α := Int × Nat × (List D) × Int × Nat × (List D)) (some (.tup ds)) (fun d => ((D.vi (D.at d 0)), (D.ln (D.at d 1)), (D.lc (D.at d 1)), (D.vi (D.at d 2)), (D.ln (D.at d 3)), (D.lc (D.at d 3)))) (fun (s2_0, s2_1n, s2_1c, s3_0, s3_1n, s3_1c) => .tup [iD s2_0, .list s2_1n s2_1c, iD s3_0, .list s3_1n s3_1c]) fun (s2_0, s2_1n, s2_1c, s3_0, s3_1n, s3_1c) => (pullD (α := Int) (m_111 [.agg [iD s3_0, .list s3_1n s3_1c]]) (fun d => ((D.vi d))) (fun r0 => iD r0) fun r0 => ((if r0 ≠ (0 : Int) then pullD (α := Int × Nat × (List D)) (m_115 [.agg [iD s2_0, .list s2_1n s2_1c], .agg [iD s3_0, .list s3_1n s3_1c]]) (fun d => ((D.vi (D.at d 0)), (D.ln (D.at d 1)), (D.lc (D.at d 1)))) (fun (r1, k2, c3) => .agg [iD r1, .list k2 c3]) fun (r1, k2, c3) => (pullD (α := Int × Nat × (List D)) (m_94 [.agg [iD r1, .list k2 c3], .agg [iD s3_0, .list s3_1n s3_1c]]) (fun d => ((D.vi (D.at d 0)), (D.ln (D.at d 1)), (D.lc (D.at d 1)))) (fun (r4, k5, c6) => .agg [iD r4, .list k5 c6]) fun (r4, k5, c6) => (pullD (α := Int × Nat × (List D)) (m_122 [.agg [iD s2_0, .list s2_1n s2_1c], .agg [iD r4, .list k5 c6]]) (fun d => ((D.vi (D.at d 0)), (D.ln (D.at d 1)), (D.lc (D.at d 1)))) (fun (r7, k8, c9) => .agg [iD r7, .list k8 c9]) fun (r7, k8, c9) => (some (.next 0 [iD s3_0, .list s3_1n s3_1c, iD r7, .list k8 c9])))) else some (.out 0 [iD s2_0, .list s2_1n s2_1c, iD s3_0, .list s3_1n s3_1c]))))
def w_gcd_L2_S (sa : Int) (ka : Nat) (ca : List D) (sb : Int) (kb : Nat) (cb : List D) (x0 : Int) (x1 : Nat) (x2 : List D) (x3 : Int) (x4 : Nat) (x5 : List D) : Go.Ev.Rd → Option Go.Ev.Rd
  | .next 0 ds => w_gcd_L2_S0 sa ka ca sb kb cb x0 x1 x2 x3 x4 x5 ds
  | _ => none
theorem w_gcd_L2_S_ok (sa : Int) (ka : Nat) (ca : List D) (sb : Int) (kb : Nat) (cb : List D) (x0 : Int) (x1 : Nat) (x2 : List D) (x3 : Int) (x4 : Nat) (x5 : List D) : ∀ s_ t_, w_gcd_L2_S sa ka ca sb kb cb x0 x1 x2 x3 x4 x5 s_ = some t_ → Step (ctx [113] w_gcd_sp) Tabs w_gcd_L2_A (stateOf (w_gcd_L2_gs sa ka ca sb kb cb x0 x1 x2 x3 x4 x5 s_)) (stateOf (w_gcd_L2_gs sa ka ca sb kb cb x0 x1 x2 x3 x4 x5 t_)) (w_gcd_L2_ax t_) ∧ EndOK w_gcd_L2_A.nx w_gcd_L2_A.low (w_gcd_L2_gs sa ka ca sb kb cb x0 x1 x2 x3 x4 x5) t_
  | .next 0 ds, t_, h => by
    have h_ : w_gcd_L2_S0 sa ka ca sb kb cb x0 x1 x2 x3 x4 x5 ds = some t_ := h
    clear h
    unfold w_gcd_L2_S0 at h_
    obtain ⟨⟨s2_0, s2_1n, s2_1c, s3_0, s3_1n, s3_1c⟩, e0, h0⟩ := pullD_elim h_
    clear h_
    obtain rfl := tup_inj e0
    obtain ⟨r0, f1_, h2_⟩ := pullD_elim h0
    replace f1_ := m_111_ok f1_
    by_cases b3_ : r0 ≠ (0 : Int)
    · have h4_ := (if_pos b3_).symm.trans h2_
      obtain ⟨⟨r1, k2, c3⟩, f5_, h6_⟩ := pullD_elim h4_
      replace f5_ := m_115_ok f5_
      obtain ⟨⟨r4, k5, c6⟩, f7_, h8_⟩ := pullD_elim h6_
      replace f7_ := m_94_ok f7_
      obtain ⟨⟨r7, k8, c9⟩, f9_, h10_⟩ := pullD_elim h8_
      replace f9_ := m_122_ok f9_
      obtain rfl := Option.some.inj h10_
      exact ⟨step_pc 3000 (bT 1 []) [iD r0, .agg [iD r1, .list k2 c3], .agg [iD r4, .list k5 c6], .agg [iD r7, .list k8 c9]] [c_b b3_] [k_c f1_, k_c f5_, k_c f7_, k_c f9_] _ rfl (by kernel_rfl) (by kernel_rfl) (by kernel_rfl) (by kernel_rfl) (by kernel_rfl) (by kernel_rfl), trivial⟩
    have h4_ := (if_neg b3_).symm.trans h2_
    have b11_ : r0 = (0 : Int) := by first | exact b3_ | simpa using b3_
    obtain rfl := Option.some.inj h4_
    exact ⟨step_pc 3000 (bF 1 []) [iD r0] [c_bn b11_] [k_c f1_] _ rfl (by kernel_rfl) (by kernel_rfl) (by kernel_rfl) (by kernel_rfl) (by kernel_rfl) (by kernel_rfl), by kernel_rfl, by kernel_rfl⟩
  | .next (_ + 1) _, _, h => by cases h
  | .out _ _, _, h => by cases h
theorem w_gcd_L2_go (sa : Int) (ka : Nat) (ca : List D) (sb : Int) (kb : Nat) (cb : List D) (x0 : Int) (x1 : Nat) (x2 : List D) (x3 : Int) (x4 : Nat) (x5 : List D) {q : Nat} {ds : List D} {j : Nat} {es : List D} (h : runR (w_gcd_L2_S sa ka ca sb kb cb x0 x1 x2 x3 x4 x5) (.next q ds) = some (.out j es)) : Runs (ctx [113] w_gcd_sp) Tabs w_gcd_L2_A (stateOf (w_gcd_L2_gs sa ka ca sb kb cb x0 x1 x2 x3 x4 x5 (.next q ds))) (stateOf (w_gcd_L2_gs sa ka ca sb kb cb x0 x1 x2 x3 x4 x5 (.out j es))) (w_gcd_L2_ax (.out j es)) ∧ (nxtOf (w_gcd_L2_gs sa ka ca sb kb cb x0 x1 x2 x3 x4 x5 (.out j es)), lowGS (w_gcd_L2_gs sa ka ca sb kb cb x0 x1 x2 x3 x4 x5 (.out j es))) = (w_gcd_L2_A.nx, w_gcd_L2_A.low) :=
  runs_of' (good true _ _) w_gcd_L2_ok (ax := w_gcd_L2_ax) (fun _ _ => rfl) (fun _ _ => axOf_end _) (w_gcd_L2_S_ok sa ka ca sb kb cb x0 x1 x2 x3 x4 x5) h
theorem w_gcd_L2_in0 (sa : Int) (ka : Nat) (ca : List D) (sb : Int) (kb : Nat) (cb : List D) (x0 : Int) (x1 : Nat) (x2 : List D) (x3 : Int) (x4 : Nat) (x5 : List D) {es : List D} (h : runR (w_gcd_L2_S sa ka ca sb kb cb x0 x1 x2 x3 x4 x5) (.next 0 [iD x0, .list (x1) (x2), iD x3, .list (x4) (x5)]) = some (.out 0 es)) : LoopC (loopAt Try.prog 113 0) (w_gcd_L2_E sa ka ca sb kb cb x0 x1 x2 x3 x4 x5) 7 noFrame w_gcd_x2_0 es :=
  have r := w_gcd_L2_go sa ka ca sb kb cb x0 x1 x2 x3 x4 x5 h
  loopin_as rfl (loop_in (l := w_gcd_L2_A) (E := (w_gcd_L2_E sa ka ca sb kb cb x0 x1 x2 x3 x4 x5)) (S := stateOf (w_gcd_L2_gs sa ka ca sb kb cb x0 x1 x2 x3 x4 x5 (.next 0 [iD x0, .list (x1) (x2), iD x3, .list (x4) (x5)]))) (ns := nsOf (w_gcd_L2_gs sa ka ca sb kb cb x0 x1 x2 x3 x4 x5 (.next 0 [iD x0, .list (x1) (x2), iD x3, .list (x4) (x5)]))) w_gcd_L2_ok r.1 r.2 (by kernel_rfl) (by kernel_rfl) (by kernel_rfl) (by kernel_rfl))
def w_gcd_M (sa : Int) (ka : Nat) (ca : List D) (sb : Int) (kb : Nat) (cb : List D) : Option D := pullD (α := Int × Nat × (List D)) (m_121 [.agg [iD sa, .list ka ca]]) (fun d => ((D.vi (D.at d 0)), (D.ln (D.at d 1)), (D.lc (D.at d 1)))) (fun (r0, k1, c2) => .agg [iD r0, .list k1 c2]) fun (r0, k1, c2) => (pullD (α := Int × Nat × (List D)) (m_121 [.agg [iD sb, .list kb cb]]) (fun d => ((D.vi (D.at d 0)), (D.ln (D.at d 1)), (D.lc (D.at d 1)))) (fun (r3, k4, c5) => .agg [iD r3, .list k4 c5]) fun (r3, k4, c5) => (bindL (runR (w_gcd_L2_S sa ka ca sb kb cb r0 k1 c2 r3 k4 c5) (.next 0 [iD r0, .list (k1) (c2), iD r3, .list (k4) (c5)])) fun j ds => (if j = 0 then pullD (α := Int × Nat × (List D) × Int × Nat × (List D)) (some (.tup ds)) (fun d => ((D.vi (D.at d 0)), (D.ln (D.at d 1)), (D.lc (D.at d 1)), (D.vi (D.at d 2)), (D.ln (D.at d 3)), (D.lc (D.at d 3)))) (fun (l6, k7, c8, l9, k10, c11) => .tup [iD l6, .list k7 c8, iD l9, .list k10 c11]) fun (l6, k7, c8, l9, k10, c11) => (some (.agg [iD l6, .list k7 c8])) else none)))
theorem w_gcd_M_ok (sa : Int) (ka : Nat) (ca : List D) (sb : Int) (kb : Nat) (cb : List D) {r : D} (h : w_gcd_M sa ka ca sb kb cb = some r) : Con 113 [.agg [iD sa, .list ka ca], .agg [iD sb, .list kb cb]] r := by
  unfold w_gcd_M at h
  obtain ⟨⟨r0, k1, c2⟩, f1_, h2_⟩ := pullD_elim h
  replace f1_ := m_121_ok f1_
  obtain ⟨⟨r3, k4, c5⟩, f3_, h4_⟩ := pullD_elim h2_
  replace f3_ := m_121_ok f3_
  obtain ⟨j, ds, e5_, h6_⟩ := bindL_elim h4_
  by_cases j7_ : j = 0
  · have h10_ := (if_pos j7_).symm.trans h6_
    clear h6_
    subst j7_
    obtain ⟨⟨l6, k7, c8, l9, k10, c11⟩, e8_, h11_⟩ := pullD_elim h10_
    clear h10_
    obtain rfl := tup_inj e8_
    have k9_ := w_gcd_L2_in0 sa ka ca sb kb cb r0 k1 c2 r3 k4 c5 e5_
    obtain rfl := Option.some.inj h11_
    exact con_pc (op := true) (I := [113]) (sp := w_gcd_sp) 3000 [] [.agg [iD r0, .list k1 c2], .agg [iD r3, .list k4 c5], .tup [iD (Int.ofNat 0), iD l6, .list k7 c8, iD l9, .list k10 c11]] [] [k_c f1_, k_c f3_, k_l k9_ [] [.tup [iD (Int.ofNat 0), iD l6, .list k7 c8, iD l9, .list k10 c11]] []] (by kernel_rfl)
  have h12_ := (if_neg j7_).symm.trans h6_
  clear h6_
  cases h12_
def m_113 (ds : List D) : Option D := pullD (α := Int × Nat × (List D) × Int × Nat × (List D)) (some (.tup ds)) (fun d => ((D.vi (D.at (D.at d 0) 0)), (D.ln (D.at (D.at d 0) 1)), (D.lc (D.at (D.at d 0) 1)), (D.vi (D.at (D.at d 1) 0)), (D.ln (D.at (D.at d 1) 1)), (D.lc (D.at (D.at d 1) 1)))) (fun (sa, ka, ca, sb, kb, cb) => .tup [.agg [iD sa, .list ka ca], .agg [iD sb, .list kb cb]]) fun (sa, ka, ca, sb, kb, cb) => w_gcd_M sa ka ca sb kb cb
theorem m_113_ok {ds : List D} {r : D} (h : m_113 ds = some r) : Con 113 ds r := by
  unfold m_113 at h
  obtain ⟨⟨sa, ka, ca, sb, kb, cb⟩, e0, h0⟩ := pullD_elim h
  obtain rfl := tup_inj e0
  exact w_gcd_M_ok sa ka ca sb kb cb h0
theorem m_113_eq (sa : Int) (ka : Nat) (ca : List D) (sb : Int) (kb : Nat) (cb : List D) : m_113 [.agg [iD sa, .list ka ca], .agg [iD sb, .list kb cb]] = w_gcd_M sa ka ca sb kb cb := pullD_some (sa, ka, ca, sb, kb, cb) rfl rfl
def w_make_sp : List LSpec := []
def w_make_M (sa : Int) (ka : Nat) (ca : List D) (sb : Int) (kb : Nat) (cb : List D) : Option D := pullD (α := Int) (m_111 [.agg [iD sb, .list kb cb]]) (fun d => ((D.vi d))) (fun r0 => iD r0) fun r0 => ((if r0 < (0 : Int) then pullD (α := Int × Nat × (List D)) (m_112 [.agg [iD sa, .list ka ca]]) (fun d => ((D.vi (D.at d 0)), (D.ln (D.at d 1)), (D.lc (D.at d 1)))) (fun (r1, k2, c3) => .agg [iD r1, .list k2 c3]) fun (r1, k2, c3) => (pullD (α := Int × Nat × (List D)) (m_112 [.agg [iD sb, .list kb cb]]) (fun d => ((D.vi (D.at d 0)), (D.ln (D.at d 1)), (D.lc (D.at d 1)))) (fun (r4, k5, c6) => .agg [iD r4, .list k5 c6]) fun (r4, k5, c6) => (pullD (α := Int × Nat × (List D)) (m_113 [.agg [iD r1, .list k2 c3], .agg [iD r4, .list k5 c6]]) (fun d => ((D.vi (D.at d 0)), (D.ln (D.at d 1)), (D.lc (D.at d 1)))) (fun (r7, k8, c9) => .agg [iD r7, .list k8 c9]) fun (r7, k8, c9) => (pullD (α := Int × Nat × (List D)) (m_92 [iD (1 : Int)]) (fun d => ((D.vi (D.at d 0)), (D.ln (D.at d 1)), (D.lc (D.at d 1)))) (fun (r10, k11, c12) => .agg [iD r10, .list k11 c12]) fun (r10, k11, c12) => (pullD (α := Int) (m_114 [.agg [iD r7, .list k8 c9], .agg [iD r10, .list k11 c12]]) (fun d => ((D.vi d))) (fun r13 => iD r13) fun r13 => ((if r13 = (0 : Int) then some (.agg [iD r1, .list k2 c3, iD r4, .list k5 c6]) else pullD (α := Int × Nat × (List D)) (m_115 [.agg [iD r1, .list k2 c3], .agg [iD r7, .list k8 c9]]) (fun d => ((D.vi (D.at d 0)), (D.ln (D.at d 1)), (D.lc (D.at d 1)))) (fun (r14, k15, c16) => .agg [iD r14, .list k15 c16]) fun (r14, k15, c16) => (pullD (α := Int × Nat × (List D)) (m_115 [.agg [iD r4, .list k5 c6], .agg [iD r7, .list k8 c9]]) (fun d => ((D.vi (D.at d 0)), (D.ln (D.at d 1)), (D.lc (D.at d 1)))) (fun (r17, k18, c19) => .agg [iD r17, .list k18 c19]) fun (r17, k18, c19) => (some (.agg [iD r14, .list k15 c16, iD r17, .list k18 c19]))))))))) else pullD (α := Int × Nat × (List D)) (m_113 [.agg [iD sa, .list ka ca], .agg [iD sb, .list kb cb]]) (fun d => ((D.vi (D.at d 0)), (D.ln (D.at d 1)), (D.lc (D.at d 1)))) (fun (r20, k21, c22) => .agg [iD r20, .list k21 c22]) fun (r20, k21, c22) => (pullD (α := Int × Nat × (List D)) (m_92 [iD (1 : Int)]) (fun d => ((D.vi (D.at d 0)), (D.ln (D.at d 1)), (D.lc (D.at d 1)))) (fun (r23, k24, c25) => .agg [iD r23, .list k24 c25]) fun (r23, k24, c25) => (pullD (α := Int) (m_114 [.agg [iD r20, .list k21 c22], .agg [iD r23, .list k24 c25]]) (fun d => ((D.vi d))) (fun r26 => iD r26) fun r26 => ((if r26 = (0 : Int) then some (.agg [iD sa, .list ka ca, iD sb, .list kb cb]) else pullD (α := Int × Nat × (List D)) (m_115 [.agg [iD sa, .list ka ca], .agg [iD r20, .list k21 c22]]) (fun d => ((D.vi (D.at d 0)), (D.ln (D.at d 1)), (D.lc (D.at d 1)))) (fun (r27, k28, c29) => .agg [iD r27, .list k28 c29]) fun (r27, k28, c29) => (pullD (α := Int × Nat × (List D)) (m_115 [.agg [iD sb, .list kb cb], .agg [iD r20, .list k21 c22]]) (fun d => ((D.vi (D.at d 0)), (D.ln (D.at d 1)), (D.lc (D.at d 1)))) (fun (r30, k31, c32) => .agg [iD r30, .list k31 c32]) fun (r30, k31, c32) => (some (.agg [iD r27, .list k28 c29, iD r30, .list k31 c32])))))))))
theorem w_make_M_ok (sa : Int) (ka : Nat) (ca : List D) (sb : Int) (kb : Nat) (cb : List D) {r : D} (h : w_make_M sa ka ca sb kb cb = some r) : Con 93 [.agg [iD sa, .list ka ca], .agg [iD sb, .list kb cb]] r := by
  unfold w_make_M at h
  obtain ⟨r0, f1_, h2_⟩ := pullD_elim h
  replace f1_ := m_111_ok f1_
  by_cases b3_ : r0 < (0 : Int)
  · have h4_ := (if_pos b3_).symm.trans h2_
    obtain ⟨⟨r1, k2, c3⟩, f5_, h6_⟩ := pullD_elim h4_
    replace f5_ := m_112_ok f5_
    obtain ⟨⟨r4, k5, c6⟩, f7_, h8_⟩ := pullD_elim h6_
    replace f7_ := m_112_ok f7_
    obtain ⟨⟨r7, k8, c9⟩, f9_, h10_⟩ := pullD_elim h8_
    replace f9_ := m_113_ok f9_
    obtain ⟨⟨r10, k11, c12⟩, f11_, h12_⟩ := pullD_elim h10_
    replace f11_ := m_92_ok f11_
    obtain ⟨r13, f13_, h14_⟩ := pullD_elim h12_
    replace f13_ := m_114_ok f13_
    by_cases b15_ : r13 = (0 : Int)
    · have h16_ := (if_pos b15_).symm.trans h14_
      obtain rfl := Option.some.inj h16_
      exact con_pc (op := true) (I := [93]) (sp := w_make_sp) 3000 (bT 2 []) [iD r0, .agg [iD r1, .list k2 c3], .agg [iD r4, .list k5 c6], .agg [iD r7, .list k8 c9], .agg [iD r10, .list k11 c12], iD r13] [c_d b3_, c_e b15_] [k_c f1_, k_c f5_, k_c f7_, k_c f9_, k_c f11_, k_c f13_] (by kernel_rfl)
    have h16_ := (if_neg b15_).symm.trans h14_
    have b17_ : r13 ≠ (0 : Int) := by first | exact b15_ | simpa using b15_
    obtain ⟨⟨r14, k15, c16⟩, f18_, h19_⟩ := pullD_elim h16_
    replace f18_ := m_115_ok f18_
    obtain ⟨⟨r17, k18, c19⟩, f20_, h21_⟩ := pullD_elim h19_
    replace f20_ := m_115_ok f20_
    obtain rfl := Option.some.inj h21_
    exact con_pc (op := true) (I := [93]) (sp := w_make_sp) 3000 (bT 1 (bF 1 [])) [iD r0, .agg [iD r1, .list k2 c3], .agg [iD r4, .list k5 c6], .agg [iD r7, .list k8 c9], .agg [iD r10, .list k11 c12], iD r13, .agg [iD r14, .list k15 c16], .agg [iD r17, .list k18 c19]] [c_d b3_, c_en b17_] [k_c f1_, k_c f5_, k_c f7_, k_c f9_, k_c f11_, k_c f13_, k_c f18_, k_c f20_] (by kernel_rfl)
  have h4_ := (if_neg b3_).symm.trans h2_
  obtain ⟨⟨r20, k21, c22⟩, f22_, h23_⟩ := pullD_elim h4_
  replace f22_ := m_113_ok f22_
  obtain ⟨⟨r23, k24, c25⟩, f24_, h25_⟩ := pullD_elim h23_
  replace f24_ := m_92_ok f24_
  obtain ⟨r26, f26_, h27_⟩ := pullD_elim h25_
  replace f26_ := m_114_ok f26_
  by_cases b28_ : r26 = (0 : Int)
  · have h29_ := (if_pos b28_).symm.trans h27_
    obtain rfl := Option.some.inj h29_
    exact con_pc (op := true) (I := [93]) (sp := w_make_sp) 3000 (bF 1 (bT 1 [])) [iD r0, .agg [iD r20, .list k21 c22], .agg [iD r23, .list k24 c25], iD r26] [c_n b3_, c_e b28_] [k_c f1_, k_c f22_, k_c f24_, k_c f26_] (by kernel_rfl)
  have h29_ := (if_neg b28_).symm.trans h27_
  have b30_ : r26 ≠ (0 : Int) := by first | exact b28_ | simpa using b28_
  obtain ⟨⟨r27, k28, c29⟩, f31_, h32_⟩ := pullD_elim h29_
  replace f31_ := m_115_ok f31_
  obtain ⟨⟨r30, k31, c32⟩, f33_, h34_⟩ := pullD_elim h32_
  replace f33_ := m_115_ok f33_
  obtain rfl := Option.some.inj h34_
  exact con_pc (op := true) (I := [93]) (sp := w_make_sp) 3000 (bF 2 []) [iD r0, .agg [iD r20, .list k21 c22], .agg [iD r23, .list k24 c25], iD r26, .agg [iD r27, .list k28 c29], .agg [iD r30, .list k31 c32]] [c_n b3_, c_en b30_] [k_c f1_, k_c f22_, k_c f24_, k_c f26_, k_c f31_, k_c f33_] (by kernel_rfl)
def m_93 (ds : List D) : Option D := pullD (α := Int × Nat × (List D) × Int × Nat × (List D)) (some (.tup ds)) (fun d => ((D.vi (D.at (D.at d 0) 0)), (D.ln (D.at (D.at d 0) 1)), (D.lc (D.at (D.at d 0) 1)), (D.vi (D.at (D.at d 1) 0)), (D.ln (D.at (D.at d 1) 1)), (D.lc (D.at (D.at d 1) 1)))) (fun (sa, ka, ca, sb, kb, cb) => .tup [.agg [iD sa, .list ka ca], .agg [iD sb, .list kb cb]]) fun (sa, ka, ca, sb, kb, cb) => w_make_M sa ka ca sb kb cb
theorem m_93_ok {ds : List D} {r : D} (h : m_93 ds = some r) : Con 93 ds r := by
  unfold m_93 at h
  obtain ⟨⟨sa, ka, ca, sb, kb, cb⟩, e0, h0⟩ := pullD_elim h
  obtain rfl := tup_inj e0
  exact w_make_M_ok sa ka ca sb kb cb h0
theorem m_93_eq (sa : Int) (ka : Nat) (ca : List D) (sb : Int) (kb : Nat) (cb : List D) : m_93 [.agg [iD sa, .list ka ca], .agg [iD sb, .list kb cb]] = w_make_M sa ka ca sb kb cb := pullD_some (sa, ka, ca, sb, kb, cb) rfl rfl
def w_rOf_sp : List LSpec := []
def w_rOf_M (n d : Int) : Option D := pullD (α := Int × Nat × (List D)) (m_92 [iD n]) (fun d => ((D.vi (D.at d 0)), (D.ln (D.at d 1)), (D.lc (D.at d 1)))) (fun (r0, k1, c2) => .agg [iD r0, .list k1 c2]) fun (r0, k1, c2) => (pullD (α := Int × Nat × (List D)) (m_92 [iD d]) (fun d => ((D.vi (D.at d 0)), (D.ln (D.at d 1)), (D.lc (D.at d 1)))) (fun (r3, k4, c5) => .agg [iD r3, .list k4 c5]) fun (r3, k4, c5) => (pullD (α := Int × Nat × (List D) × Int × Nat × (List D)) (m_93 [.agg [iD r0, .list k1 c2], .agg [iD r3, .list k4 c5]]) (fun d => ((D.vi (D.at d 0)), (D.ln (D.at d 1)), (D.lc (D.at d 1)), (D.vi (D.at d 2)), (D.ln (D.at d 3)), (D.lc (D.at d 3)))) (fun (r6, k7, c8, r9, k10, c11) => .agg [iD r6, .list k7 c8, iD r9, .list k10 c11]) fun (r6, k7, c8, r9, k10, c11) => (some (.agg [iD r6, .list k7 c8, iD r9, .list k10 c11]))))
theorem w_rOf_M_ok (n d : Int) {r : D} (h : w_rOf_M n d = some r) : Con 95 [iD n, iD d] r := by
  unfold w_rOf_M at h
  obtain ⟨⟨r0, k1, c2⟩, f1_, h2_⟩ := pullD_elim h
  replace f1_ := m_92_ok f1_
  obtain ⟨⟨r3, k4, c5⟩, f3_, h4_⟩ := pullD_elim h2_
  replace f3_ := m_92_ok f3_
  obtain ⟨⟨r6, k7, c8, r9, k10, c11⟩, f5_, h6_⟩ := pullD_elim h4_
  replace f5_ := m_93_ok f5_
  obtain rfl := Option.some.inj h6_
  exact con_pc (op := true) (I := [95]) (sp := w_rOf_sp) 3000 [] [.agg [iD r0, .list k1 c2], .agg [iD r3, .list k4 c5], .agg [iD r6, .list k7 c8, iD r9, .list k10 c11]] [] [k_c f1_, k_c f3_, k_c f5_] (by kernel_rfl)
def m_95 (ds : List D) : Option D := pullD (α := Int × Int) (some (.tup ds)) (fun d => ((D.vi (D.at d 0)), (D.vi (D.at d 1)))) (fun (n, d) => .tup [iD n, iD d]) fun (n, d) => w_rOf_M n d
theorem m_95_ok {ds : List D} {r : D} (h : m_95 ds = some r) : Con 95 ds r := by
  unfold m_95 at h
  obtain ⟨⟨n, d⟩, e0, h0⟩ := pullD_elim h
  obtain rfl := tup_inj e0
  exact w_rOf_M_ok n d h0
theorem m_95_eq (n d : Int) : m_95 [iD n, iD d] = w_rOf_M n d := pullD_some (n, d) rfl rfl
def w_rInt_sp : List LSpec := []
def w_rInt_M (n : Int) : Option D := pullD (α := Int × Nat × (List D)) (m_92 [iD n]) (fun d => ((D.vi (D.at d 0)), (D.ln (D.at d 1)), (D.lc (D.at d 1)))) (fun (r0, k1, c2) => .agg [iD r0, .list k1 c2]) fun (r0, k1, c2) => (pullD (α := Int × Nat × (List D)) (m_92 [iD (1 : Int)]) (fun d => ((D.vi (D.at d 0)), (D.ln (D.at d 1)), (D.lc (D.at d 1)))) (fun (r3, k4, c5) => .agg [iD r3, .list k4 c5]) fun (r3, k4, c5) => (some (.agg [iD r0, .list k1 c2, iD r3, .list k4 c5])))
theorem w_rInt_M_ok (n : Int) {r : D} (h : w_rInt_M n = some r) : Con 57 [iD n] r := by
  unfold w_rInt_M at h
  obtain ⟨⟨r0, k1, c2⟩, f1_, h2_⟩ := pullD_elim h
  replace f1_ := m_92_ok f1_
  obtain ⟨⟨r3, k4, c5⟩, f3_, h4_⟩ := pullD_elim h2_
  replace f3_ := m_92_ok f3_
  obtain rfl := Option.some.inj h4_
  exact con_pc (op := true) (I := [57]) (sp := w_rInt_sp) 3000 [] [.agg [iD r0, .list k1 c2], .agg [iD r3, .list k4 c5]] [] [k_c f1_, k_c f3_] (by kernel_rfl)
def m_57 (ds : List D) : Option D := pullD (α := Int) (some (.tup ds)) (fun d => ((D.vi (D.at d 0)))) (fun n => .tup [iD n]) fun n => w_rInt_M n
theorem m_57_ok {ds : List D} {r : D} (h : m_57 ds = some r) : Con 57 ds r := by
  unfold m_57 at h
  obtain ⟨n, e0, h0⟩ := pullD_elim h
  obtain rfl := tup_inj e0
  exact w_rInt_M_ok n h0
theorem m_57_eq (n : Int) : m_57 [iD n] = w_rInt_M n := pullD_some n rfl rfl
def w_rFrom_sp : List LSpec := []
def w_rFrom_M (n d : Int) : Option D := pullD (α := Int × Nat × (List D) × Int × Nat × (List D)) (m_95 [iD n, iD d]) (fun d => ((D.vi (D.at d 0)), (D.ln (D.at d 1)), (D.lc (D.at d 1)), (D.vi (D.at d 2)), (D.ln (D.at d 3)), (D.lc (D.at d 3)))) (fun (r0, k1, c2, r3, k4, c5) => .agg [iD r0, .list k1 c2, iD r3, .list k4 c5]) fun (r0, k1, c2, r3, k4, c5) => (some (.agg [iD r0, .list k1 c2, iD r3, .list k4 c5]))
theorem w_rFrom_M_ok (n d : Int) {r : D} (h : w_rFrom_M n d = some r) : Con 59 [.agg [iD n, iD d]] r := by
  unfold w_rFrom_M at h
  obtain ⟨⟨r0, k1, c2, r3, k4, c5⟩, f1_, h2_⟩ := pullD_elim h
  replace f1_ := m_95_ok f1_
  obtain rfl := Option.some.inj h2_
  exact con_pc (op := true) (I := [59]) (sp := w_rFrom_sp) 3000 [] [.agg [iD r0, .list k1 c2, iD r3, .list k4 c5]] [] [k_c f1_] (by kernel_rfl)
def m_59 (ds : List D) : Option D := pullD (α := Int × Int) (some (.tup ds)) (fun d => ((D.vi (D.at (D.at d 0) 0)), (D.vi (D.at (D.at d 0) 1)))) (fun (n, d) => .tup [.agg [iD n, iD d]]) fun (n, d) => w_rFrom_M n d
theorem m_59_ok {ds : List D} {r : D} (h : m_59 ds = some r) : Con 59 ds r := by
  unfold m_59 at h
  obtain ⟨⟨n, d⟩, e0, h0⟩ := pullD_elim h
  obtain rfl := tup_inj e0
  exact w_rFrom_M_ok n d h0
theorem m_59_eq (n d : Int) : m_59 [.agg [iD n, iD d]] = w_rFrom_M n d := pullD_some (n, d) rfl rfl
def w_rMul_sp : List LSpec := []
def w_rMul_M (sa : Int) (ka : Nat) (ca : List D) (sb : Int) (kb : Nat) (cb : List D) (sc : Int) (kc : Nat) (cc : List D) (sd : Int) (kd : Nat) (cd : List D) : Option D := pullD (α := Int × Nat × (List D)) (m_94 [.agg [iD sa, .list ka ca], .agg [iD sc, .list kc cc]]) (fun d => ((D.vi (D.at d 0)), (D.ln (D.at d 1)), (D.lc (D.at d 1)))) (fun (r0, k1, c2) => .agg [iD r0, .list k1 c2]) fun (r0, k1, c2) => (pullD (α := Int × Nat × (List D)) (m_94 [.agg [iD sb, .list kb cb], .agg [iD sd, .list kd cd]]) (fun d => ((D.vi (D.at d 0)), (D.ln (D.at d 1)), (D.lc (D.at d 1)))) (fun (r3, k4, c5) => .agg [iD r3, .list k4 c5]) fun (r3, k4, c5) => (pullD (α := Int × Nat × (List D) × Int × Nat × (List D)) (m_93 [.agg [iD r0, .list k1 c2], .agg [iD r3, .list k4 c5]]) (fun d => ((D.vi (D.at d 0)), (D.ln (D.at d 1)), (D.lc (D.at d 1)), (D.vi (D.at d 2)), (D.ln (D.at d 3)), (D.lc (D.at d 3)))) (fun (r6, k7, c8, r9, k10, c11) => .agg [iD r6, .list k7 c8, iD r9, .list k10 c11]) fun (r6, k7, c8, r9, k10, c11) => (some (.agg [iD r6, .list k7 c8, iD r9, .list k10 c11]))))
theorem w_rMul_M_ok (sa : Int) (ka : Nat) (ca : List D) (sb : Int) (kb : Nat) (cb : List D) (sc : Int) (kc : Nat) (cc : List D) (sd : Int) (kd : Nat) (cd : List D) {r : D} (h : w_rMul_M sa ka ca sb kb cb sc kc cc sd kd cd = some r) : Con 58 [.agg [iD sa, .list ka ca, iD sb, .list kb cb], .agg [iD sc, .list kc cc, iD sd, .list kd cd]] r := by
  unfold w_rMul_M at h
  obtain ⟨⟨r0, k1, c2⟩, f1_, h2_⟩ := pullD_elim h
  replace f1_ := m_94_ok f1_
  obtain ⟨⟨r3, k4, c5⟩, f3_, h4_⟩ := pullD_elim h2_
  replace f3_ := m_94_ok f3_
  obtain ⟨⟨r6, k7, c8, r9, k10, c11⟩, f5_, h6_⟩ := pullD_elim h4_
  replace f5_ := m_93_ok f5_
  obtain rfl := Option.some.inj h6_
  exact con_pc (op := true) (I := [58]) (sp := w_rMul_sp) 3000 [] [.agg [iD r0, .list k1 c2], .agg [iD r3, .list k4 c5], .agg [iD r6, .list k7 c8, iD r9, .list k10 c11]] [] [k_c f1_, k_c f3_, k_c f5_] (by kernel_rfl)
def m_58 (ds : List D) : Option D := pullD (α := Int × Nat × (List D) × Int × Nat × (List D) × Int × Nat × (List D) × Int × Nat × (List D)) (some (.tup ds)) (fun d => ((D.vi (D.at (D.at d 0) 0)), (D.ln (D.at (D.at d 0) 1)), (D.lc (D.at (D.at d 0) 1)), (D.vi (D.at (D.at d 0) 2)), (D.ln (D.at (D.at d 0) 3)), (D.lc (D.at (D.at d 0) 3)), (D.vi (D.at (D.at d 1) 0)), (D.ln (D.at (D.at d 1) 1)), (D.lc (D.at (D.at d 1) 1)), (D.vi (D.at (D.at d 1) 2)), (D.ln (D.at (D.at d 1) 3)), (D.lc (D.at (D.at d 1) 3)))) (fun (sa, ka, ca, sb, kb, cb, sc, kc, cc, sd, kd, cd) => .tup [.agg [iD sa, .list ka ca, iD sb, .list kb cb], .agg [iD sc, .list kc cc, iD sd, .list kd cd]]) fun (sa, ka, ca, sb, kb, cb, sc, kc, cc, sd, kd, cd) => w_rMul_M sa ka ca sb kb cb sc kc cc sd kd cd
theorem m_58_ok {ds : List D} {r : D} (h : m_58 ds = some r) : Con 58 ds r := by
  unfold m_58 at h
  obtain ⟨⟨sa, ka, ca, sb, kb, cb, sc, kc, cc, sd, kd, cd⟩, e0, h0⟩ := pullD_elim h
  obtain rfl := tup_inj e0
  exact w_rMul_M_ok sa ka ca sb kb cb sc kc cc sd kd cd h0
theorem m_58_eq (sa : Int) (ka : Nat) (ca : List D) (sb : Int) (kb : Nat) (cb : List D) (sc : Int) (kc : Nat) (cc : List D) (sd : Int) (kd : Nat) (cd : List D) : m_58 [.agg [iD sa, .list ka ca, iD sb, .list kb cb], .agg [iD sc, .list kc cc, iD sd, .list kd cd]] = w_rMul_M sa ka ca sb kb cb sc kc cc sd kd cd := pullD_some (sa, ka, ca, sb, kb, cb, sc, kc, cc, sd, kd, cd) rfl rfl
def w_rFrac_sp : List LSpec := []
def w_rFrac_M (sa : Int) (ka : Nat) (ca : List D) (sb : Int) (kb : Nat) (cb : List D) : Option D := pullD (α := Int × Bool) (m_96 [.agg [iD sa, .list ka ca]]) (fun d => ((D.vi (D.at d 0)), (D.vb (D.at d 1)))) (fun (r0, r1) => .tup [iD r0, .one (.bool r1)]) fun (r0, r1) => (pullD (α := Int × Bool) (m_96 [.agg [iD sb, .list kb cb]]) (fun d => ((D.vi (D.at d 0)), (D.vb (D.at d 1)))) (fun (r2, r3) => .tup [iD r2, .one (.bool r3)]) fun (r2, r3) => ((if r1 = false then some (.tup [.agg [iD (0 : Int), iD (0 : Int)], .one (.bool false)]) else (if r3 = false then some (.tup [.agg [iD (0 : Int), iD (0 : Int)], .one (.bool false)]) else pullD (α := Bool) (m_77 [.agg [iD r0, iD r2]]) (fun d => ((D.vb d))) (fun r4 => .one (.bool r4)) fun r4 => ((if r4 = false then some (.tup [.agg [iD (0 : Int), iD (0 : Int)], .one (.bool false)]) else some (.tup [.agg [iD r0, iD r2], .one (.bool true)])))))))
theorem w_rFrac_M_ok (sa : Int) (ka : Nat) (ca : List D) (sb : Int) (kb : Nat) (cb : List D) {r : D} (h : w_rFrac_M sa ka ca sb kb cb = some r) : Con 60 [.agg [iD sa, .list ka ca, iD sb, .list kb cb]] r := by
  unfold w_rFrac_M at h
  obtain ⟨⟨r0, r1⟩, f1_, h2_⟩ := pullD_elim h
  replace f1_ := m_96_ok f1_
  obtain ⟨⟨r2, r3⟩, f3_, h4_⟩ := pullD_elim h2_
  replace f3_ := m_96_ok f3_
  by_cases b5_ : r1 = false
  · have h6_ := (if_pos b5_).symm.trans h4_
    obtain rfl := Option.some.inj h6_
    exact con_pc (op := true) (I := [60]) (sp := w_rFrac_sp) 3000 (bT 8 []) [.tup [iD r0, .one (.bool r1)], .tup [iD r2, .one (.bool r3)]] [c_no b5_, c_no b5_, c_no b5_, c_T, c_T, c_T, c_T, c_T] [k_c f1_, k_c f3_] (by kernel_rfl)
  have h6_ := (if_neg b5_).symm.trans h4_
  have b7_ : r1 = true := by first | exact b5_ | simpa using b5_
  by_cases b8_ : r3 = false
  · have h9_ := (if_pos b8_).symm.trans h6_
    obtain rfl := Option.some.inj h9_
    exact con_pc (op := true) (I := [60]) (sp := w_rFrac_sp) 3000 (bF 3 (bT 5 [])) [.tup [iD r0, .one (.bool r1)], .tup [iD r2, .one (.bool r3)]] [c_nn b7_, c_nn b7_, c_nn b7_, c_no b8_, c_no b8_, c_no b8_, c_no b8_, c_T] [k_c f1_, k_c f3_] (by kernel_rfl)
  have h9_ := (if_neg b8_).symm.trans h6_
  have b10_ : r3 = true := by first | exact b8_ | simpa using b8_
  obtain ⟨r4, f11_, h12_⟩ := pullD_elim h9_
  replace f11_ := m_77_ok f11_
  by_cases b13_ : r4 = false
  · have h14_ := (if_pos b13_).symm.trans h12_
    obtain rfl := Option.some.inj h14_
    exact con_pc (op := true) (I := [60]) (sp := w_rFrac_sp) 3000 (bF 7 (bT 1 [])) [.tup [iD r0, .one (.bool r1)], .tup [iD r2, .one (.bool r3)], .one (.bool r4)] [c_nn b7_, c_nn b7_, c_nn b7_, c_nn b10_, c_nn b10_, c_nn b10_, c_nn b10_, c_no b13_] [k_c f1_, k_c f3_, k_c f11_] (by kernel_rfl)
  have h14_ := (if_neg b13_).symm.trans h12_
  have b15_ : r4 = true := by first | exact b13_ | simpa using b13_
  obtain rfl := Option.some.inj h14_
  exact con_pc (op := true) (I := [60]) (sp := w_rFrac_sp) 3000 (bF 8 []) [.tup [iD r0, .one (.bool r1)], .tup [iD r2, .one (.bool r3)], .one (.bool r4)] [c_nn b7_, c_nn b7_, c_nn b7_, c_nn b10_, c_nn b10_, c_nn b10_, c_nn b10_, c_nn b15_] [k_c f1_, k_c f3_, k_c f11_] (by kernel_rfl)
def m_60 (ds : List D) : Option D := pullD (α := Int × Nat × (List D) × Int × Nat × (List D)) (some (.tup ds)) (fun d => ((D.vi (D.at (D.at d 0) 0)), (D.ln (D.at (D.at d 0) 1)), (D.lc (D.at (D.at d 0) 1)), (D.vi (D.at (D.at d 0) 2)), (D.ln (D.at (D.at d 0) 3)), (D.lc (D.at (D.at d 0) 3)))) (fun (sa, ka, ca, sb, kb, cb) => .tup [.agg [iD sa, .list ka ca, iD sb, .list kb cb]]) fun (sa, ka, ca, sb, kb, cb) => w_rFrac_M sa ka ca sb kb cb
theorem m_60_ok {ds : List D} {r : D} (h : m_60 ds = some r) : Con 60 ds r := by
  unfold m_60 at h
  obtain ⟨⟨sa, ka, ca, sb, kb, cb⟩, e0, h0⟩ := pullD_elim h
  obtain rfl := tup_inj e0
  exact w_rFrac_M_ok sa ka ca sb kb cb h0
theorem m_60_eq (sa : Int) (ka : Nat) (ca : List D) (sb : Int) (kb : Nat) (cb : List D) : m_60 [.agg [iD sa, .list ka ca, iD sb, .list kb cb]] = w_rFrac_M sa ka ca sb kb cb := pullD_some (sa, ka, ca, sb, kb, cb) rfl rfl
end
end Go.Proofs.Ytjjbacbjdilhmaa
