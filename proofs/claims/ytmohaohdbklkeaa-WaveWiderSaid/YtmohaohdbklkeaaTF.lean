import Derived.Test.YtmohaohdbklkeaaTE
set_option linter.unusedVariables false
set_option linter.unusedSimpArgs false
set_option linter.unusedSectionVars false
set_option linter.unnecessarySimpa false
namespace Go.Proofs.Ytmohaohdbklkeaa
open Go.Ev Go.RowKit
set_option maxRecDepth 100000
set_option maxHeartbeats 8000000
set_option linter.all false
noncomputable section
abbrev shNL7_0 (a0 : Int) (a1 : Int) (a2 : Int) (a3 : Int) (a4 : Int) (a5 : Int) (a6 : Int) (a7 : Int) (a8 : Int) : D := .agg [.one (.int .i64 a0), .one (.int .i64 a1), .one (.int .i64 a2), .one (.int .i64 a3), .one (.int .i64 a4), .one (.int .i64 a5), .one (.int .i64 a6), .one (.int .i64 a7), .one (.int .i64 a8)]
def inOrder_x2_0 : LExit := ⟨some 0, [], (2 :: (4 :: (List.range' 7 10)))⟩
def inOrder_x2_1 : LExit := ⟨none, [.val 2], (4 :: (List.range' 7 10))⟩
def inOrder_sp : List LSpec := [⟨91, 2, [inOrder_x2_0, inOrder_x2_1]⟩]
def inOrder_L2_E (k : Nat) (c : List D)  : List AV × AHeap := ([.dsl 0, .pure (.tuple #[]), .pure (.int .i64 (0 : Int)), .pure (.tuple #[]), .pure (.tuple #[]), .dsl 0, .pure (.int .i64 (k : Int)), .pure (.int .i64 (0 : Int)), .pure (.tuple #[]), .pure (.tuple #[]), .pure (.tuple #[]), .pure (.tuple #[]), .pure (.tuple #[]), .pure (.tuple #[]), .pure (.tuple #[]), .pure (.tuple #[]), .pure (.tuple #[])], [(0, { cells := [], opn := none, kind := .deep k c })])
def inOrder_L2_A : LoopAt := ⟨91, loopAt Try.prog 91 0, 1, 13, 1, noFrame⟩
theorem inOrder_L2_ok : (inOrder_L2_A).OK := ⟨by show 1 ≤ 13; decide, by show 1 ≤ 1; decide, by kernel_rfl, rfl⟩
def inOrder_L2_gs (k : Nat) (c : List D)  : Go.Ev.Rd → Option GS
  | .next 0 ds => ghost [.val 7] (2 :: (4 :: (List.range' 8 9))) (inOrder_L2_E k c).1 (inOrder_L2_E k c).2 1 ds
  | .out 0 ds => ghost inOrder_x2_0.live inOrder_x2_0.junk (inOrder_L2_E k c).1 (inOrder_L2_E k c).2 1 ds
  | .out 1 ds => ghost inOrder_x2_1.live inOrder_x2_1.junk (inOrder_L2_E k c).1 (inOrder_L2_E k c).2 1 ds
  | _ => none
def inOrder_L2_ex : Nat → Option Nat
  | 0 => inOrder_x2_0.ex
  | 1 => inOrder_x2_1.ex
  | _ => none
def inOrder_L2_ax : Go.Ev.Rd → AX
  | .next _ _ => .normal
  | .out j _ => axOf (inOrder_L2_ex j)
def inOrder_L2_S0 (k : Nat) (c : List D)  (ds : List D) : Option Go.Ev.Rd := pullD (α := Int) (some (.tup ds)) (fun d => ((D.vi (D.at d 0)))) (fun s7 => .tup [iD s7]) fun s7 => ((if s7 < (k : Int) then guardP ((0 : Int) ≤ s7 ∧ s7.toNat < k) (pullD (α := Int × Int) (readD c (s7.toNat * 2) 2 true) (fun d => ((D.vi (D.at d 0)), (D.vi (D.at d 1)))) (fun (v0, v1) => .agg [iD v0, iD v1]) fun (v0, v1) => ((if v0 > v1 then some (.out 1 [iD (9 : Int)]) else some (.next 0 [iD (IntKind.i64.wrap (s7 + (1 : Int)))])))) else some (.out 0 [])))
def inOrder_L2_S (k : Nat) (c : List D)  : Go.Ev.Rd → Option Go.Ev.Rd
  | .next 0 ds => inOrder_L2_S0 k c ds
  | _ => none
theorem inOrder_L2_S_ok (k : Nat) (c : List D)  : ∀ s_ t_, inOrder_L2_S k c s_ = some t_ → Step (ctx [91] inOrder_sp) Tabs inOrder_L2_A (stateOf (inOrder_L2_gs k c s_)) (stateOf (inOrder_L2_gs k c t_)) (inOrder_L2_ax t_) ∧ EndOK inOrder_L2_A.nx inOrder_L2_A.low (inOrder_L2_gs k c) t_
  | .next 0 ds, t_, h => by
    have h_ : inOrder_L2_S0 k c ds = some t_ := h
    clear h
    unfold inOrder_L2_S0 at h_
    obtain ⟨s7, e0, h0⟩ := pullD_elim h_
    clear h_
    obtain rfl := tup_inj e0
    by_cases b1_ : s7 < (k : Int)
    · have h2_ := (if_pos b1_).symm.trans h0
      obtain ⟨f3_, h4_⟩ := guardP_elim h2_
      obtain ⟨⟨v0, v1⟩, f5_, h6_⟩ := pullD_elim h4_
      replace f5_ := readD_elim f5_
      by_cases b7_ : v0 > v1
      · have h8_ := (if_pos b7_).symm.trans h6_
        obtain rfl := Option.some.inj h8_
        exact ⟨step_pc 3000 (bT 2 []) [.agg [iD v0, iD v1]] [c_d b1_, c_f f3_, c_f f5_, c_d b7_] [] _ rfl (by kernel_rfl) (by kernel_rfl) (by kernel_rfl) (by kernel_rfl) (by kernel_rfl) (by kernel_rfl), by kernel_rfl, by kernel_rfl⟩
      have h8_ := (if_neg b7_).symm.trans h6_
      obtain rfl := Option.some.inj h8_
      exact ⟨step_pc 3000 (bT 1 (bF 1 [])) [.agg [iD v0, iD v1]] [c_d b1_, c_f f3_, c_f f5_, c_n b7_] [] _ rfl (by kernel_rfl) (by kernel_rfl) (by kernel_rfl) (by kernel_rfl) (by kernel_rfl) (by kernel_rfl), trivial⟩
    have h2_ := (if_neg b1_).symm.trans h0
    obtain rfl := Option.some.inj h2_
    exact ⟨step_pc 3000 (bF 1 []) [] [c_n b1_] [] _ rfl (by kernel_rfl) (by kernel_rfl) (by kernel_rfl) (by kernel_rfl) (by kernel_rfl) (by kernel_rfl), by kernel_rfl, by kernel_rfl⟩
  | .next (_ + 1) _, _, h => by cases h
  | .out _ _, _, h => by cases h
theorem inOrder_L2_go (k : Nat) (c : List D)  {q : Nat} {ds : List D} {j : Nat} {es : List D} (h : runR (inOrder_L2_S k c) (.next q ds) = some (.out j es)) : Runs (ctx [91] inOrder_sp) Tabs inOrder_L2_A (stateOf (inOrder_L2_gs k c (.next q ds))) (stateOf (inOrder_L2_gs k c (.out j es))) (inOrder_L2_ax (.out j es)) ∧ (nxtOf (inOrder_L2_gs k c (.out j es)), lowGS (inOrder_L2_gs k c (.out j es))) = (inOrder_L2_A.nx, inOrder_L2_A.low) :=
  runs_of' (good true _ _) inOrder_L2_ok (ax := inOrder_L2_ax) (fun _ _ => rfl) (fun _ _ => axOf_end _) (inOrder_L2_S_ok k c) h
theorem inOrder_L2_in0 (k : Nat) (c : List D)  {es : List D} (h : runR (inOrder_L2_S k c) (.next 0 [iD ((0 : Int))]) = some (.out 0 es)) : LoopC (loopAt Try.prog 91 0) (inOrder_L2_E k c) 1 noFrame inOrder_x2_0 es :=
  have r := inOrder_L2_go k c h
  loopin_as rfl (loop_in (l := inOrder_L2_A) (E := (inOrder_L2_E k c)) (S := stateOf (inOrder_L2_gs k c (.next 0 [iD ((0 : Int))]))) (ns := nsOf (inOrder_L2_gs k c (.next 0 [iD ((0 : Int))]))) inOrder_L2_ok r.1 r.2 (by kernel_rfl) (by kernel_rfl) (by kernel_rfl) (by kernel_rfl))
theorem inOrder_L2_in1 (k : Nat) (c : List D)  {es : List D} (h : runR (inOrder_L2_S k c) (.next 0 [iD ((0 : Int))]) = some (.out 1 es)) : LoopC (loopAt Try.prog 91 0) (inOrder_L2_E k c) 1 noFrame inOrder_x2_1 es :=
  have r := inOrder_L2_go k c h
  loopin_as rfl (loop_in (l := inOrder_L2_A) (E := (inOrder_L2_E k c)) (S := stateOf (inOrder_L2_gs k c (.next 0 [iD ((0 : Int))]))) (ns := nsOf (inOrder_L2_gs k c (.next 0 [iD ((0 : Int))]))) inOrder_L2_ok r.1 r.2 (by kernel_rfl) (by kernel_rfl) (by kernel_rfl) (by kernel_rfl))
def inOrder_M (k : Nat) (c : List D) : Option D := bindL (runR (inOrder_L2_S k c) (.next 0 [iD ((0 : Int))])) fun j ds => (if j = 0 then pullD (some (.tup ds)) (fun _ => ()) (fun _ => .tup []) fun _ => (some (iD (0 : Int))) else if j = 1 then pullD (α := Int) (some (.tup ds)) (fun d => ((D.vi (D.at d 0)))) (fun l0 => .tup [iD l0]) fun l0 => (some (iD l0)) else none)
theorem inOrder_M_ok (k : Nat) (c : List D) {r : D} (h : inOrder_M k c = some r) : Con 91 [.list k c] r := by
  unfold inOrder_M at h
  obtain ⟨j, ds, e1_, h2_⟩ := bindL_elim h
  by_cases j3_ : j = 0
  · have h6_ := (if_pos j3_).symm.trans h2_
    clear h2_
    subst j3_
    obtain ⟨⟨⟩, e4_, h7_⟩ := pullD_elim h6_
    clear h6_
    obtain rfl := tup_inj e4_
    have k5_ := inOrder_L2_in0 k c e1_
    obtain rfl := Option.some.inj h7_
    exact con_pc (op := true) (I := [91]) (sp := inOrder_sp) 3000 [] [.tup [iD (Int.ofNat 0)]] [] [k_l k5_ [] [.tup [iD (Int.ofNat 0)]] []] (by kernel_rfl)
  have h8_ := (if_neg j3_).symm.trans h2_
  clear h2_
  by_cases j9_ : j = 1
  · have h12_ := (if_pos j9_).symm.trans h8_
    clear h8_
    subst j9_
    obtain ⟨l0, e10_, h13_⟩ := pullD_elim h12_
    clear h12_
    obtain rfl := tup_inj e10_
    have k11_ := inOrder_L2_in1 k c e1_
    obtain rfl := Option.some.inj h13_
    exact con_pc (op := true) (I := [91]) (sp := inOrder_sp) 3000 [] [.tup [iD (Int.ofNat 1), iD l0]] [] [k_l k11_ [] [.tup [iD (Int.ofNat 1), iD l0]] []] (by kernel_rfl)
  have h14_ := (if_neg j9_).symm.trans h8_
  clear h8_
  cases h14_
def m_91 (ds : List D) : Option D := pullD (α := Nat × (List D)) (some (.tup ds)) (fun d => ((D.ln (D.at d 0)), (D.lc (D.at d 0)))) (fun (k, c) => .tup [.list k c]) fun (k, c) => inOrder_M k c
theorem m_91_ok {ds : List D} {r : D} (h : m_91 ds = some r) : Con 91 ds r := by
  unfold m_91 at h
  obtain ⟨⟨k, c⟩, e0, h0⟩ := pullD_elim h
  obtain rfl := tup_inj e0
  exact inOrder_M_ok k c h0
theorem m_91_eq (k : Nat) (c : List D) : m_91 [.list k c] = inOrder_M k c := pullD_some (k, c) rfl rfl
def rdown_sp : List LSpec := []
def rdown_M (n d : Int) : Option D := guardP (d ≠ (0 : Int)) ((if n.tmod d < (0 : Int) then some (iD (IntKind.i64.wrap (IntKind.i64.wrap (n.tdiv d) - (1 : Int)))) else some (iD (IntKind.i64.wrap (n.tdiv d)))))
theorem rdown_M_ok (n d : Int) {r : D} (h : rdown_M n d = some r) : Con 65 [iD n, iD d] r := by
  unfold rdown_M at h
  obtain ⟨f1_, h2_⟩ := guardP_elim h
  by_cases b3_ : n.tmod d < (0 : Int)
  · have h4_ := (if_pos b3_).symm.trans h2_
    obtain rfl := Option.some.inj h4_
    exact con_pc (op := true) (I := [65]) (sp := rdown_sp) 3000 (bT 1 []) [] [c_en f1_, c_en f1_, c_d b3_] [] (by kernel_rfl)
  have h4_ := (if_neg b3_).symm.trans h2_
  obtain rfl := Option.some.inj h4_
  exact con_pc (op := true) (I := [65]) (sp := rdown_sp) 3000 (bF 1 []) [] [c_en f1_, c_en f1_, c_n b3_] [] (by kernel_rfl)
def m_65 (ds : List D) : Option D := pullD (α := Int × Int) (some (.tup ds)) (fun d => ((D.vi (D.at d 0)), (D.vi (D.at d 1)))) (fun (n, d) => .tup [iD n, iD d]) fun (n, d) => rdown_M n d
theorem m_65_ok {ds : List D} {r : D} (h : m_65 ds = some r) : Con 65 ds r := by
  unfold m_65 at h
  obtain ⟨⟨n, d⟩, e0, h0⟩ := pullD_elim h
  obtain rfl := tup_inj e0
  exact rdown_M_ok n d h0
theorem m_65_eq (n d : Int) : m_65 [iD n, iD d] = rdown_M n d := pullD_some (n, d) rfl rfl
def rup_sp : List LSpec := []
def rup_M (n d : Int) : Option D := pullD (α := Int) (m_65 [iD (IntKind.i64.wrap ((0 : Int) - n)), iD d]) (fun d => ((D.vi d))) (fun r0 => iD r0) fun r0 => (some (iD (IntKind.i64.wrap ((0 : Int) - r0))))
theorem rup_M_ok (n d : Int) {r : D} (h : rup_M n d = some r) : Con 66 [iD n, iD d] r := by
  unfold rup_M at h
  obtain ⟨r0, f1_, h2_⟩ := pullD_elim h
  replace f1_ := m_65_ok f1_
  obtain rfl := Option.some.inj h2_
  exact con_pc (op := true) (I := [66]) (sp := rup_sp) 3000 [] [iD r0] [] [k_c f1_] (by kernel_rfl)
def m_66 (ds : List D) : Option D := pullD (α := Int × Int) (some (.tup ds)) (fun d => ((D.vi (D.at d 0)), (D.vi (D.at d 1)))) (fun (n, d) => .tup [iD n, iD d]) fun (n, d) => rup_M n d
theorem m_66_ok {ds : List D} {r : D} (h : m_66 ds = some r) : Con 66 ds r := by
  unfold m_66 at h
  obtain ⟨⟨n, d⟩, e0, h0⟩ := pullD_elim h
  obtain rfl := tup_inj e0
  exact rup_M_ok n d h0
theorem m_66_eq (n d : Int) : m_66 [iD n, iD d] = rup_M n d := pullD_some (n, d) rfl rfl
def rounded_sp : List LSpec := []
def rounded_M (lo hi d : Int) : Option D := pullD (α := Int) (m_65 [iD lo, iD d]) (fun d => ((D.vi d))) (fun r0 => iD r0) fun r0 => (pullD (α := Int) (m_66 [iD hi, iD d]) (fun d => ((D.vi d))) (fun r1 => iD r1) fun r1 => (some (.agg [iD r0, iD r1])))
theorem rounded_M_ok (lo hi d : Int) {r : D} (h : rounded_M lo hi d = some r) : Con 62 [iD lo, iD hi, iD d] r := by
  unfold rounded_M at h
  obtain ⟨r0, f1_, h2_⟩ := pullD_elim h
  replace f1_ := m_65_ok f1_
  obtain ⟨r1, f3_, h4_⟩ := pullD_elim h2_
  replace f3_ := m_66_ok f3_
  obtain rfl := Option.some.inj h4_
  exact con_pc (op := true) (I := [62]) (sp := rounded_sp) 3000 [] [iD r0, iD r1] [] [k_c f1_, k_c f3_] (by kernel_rfl)
def m_62 (ds : List D) : Option D := pullD (α := Int × Int × Int) (some (.tup ds)) (fun d => ((D.vi (D.at d 0)), (D.vi (D.at d 1)), (D.vi (D.at d 2)))) (fun (lo, hi, d) => .tup [iD lo, iD hi, iD d]) fun (lo, hi, d) => rounded_M lo hi d
theorem m_62_ok {ds : List D} {r : D} (h : m_62 ds = some r) : Con 62 ds r := by
  unfold m_62 at h
  obtain ⟨⟨lo, hi, d⟩, e0, h0⟩ := pullD_elim h
  obtain rfl := tup_inj e0
  exact rounded_M_ok lo hi d h0
theorem m_62_eq (lo hi d : Int) : m_62 [iD lo, iD hi, iD d] = rounded_M lo hi d := pullD_some (lo, hi, d) rfl rfl
def chkFigures_sp : List LSpec := []
def chkFigures_M_s0 (ga pl ph tl th nl nh ul uh : Int)  : Option D := (if pl < (1 : Int) then pullD (α := Int) (m_91 [.list 4 [iD pl, iD ph, iD tl, iD th, iD nl, iD nh, iD ul, iD uh]]) (fun d => ((D.vi d))) (fun r0 => iD r0) fun r0 => (pullD (α := Int) (m_45 [.list 3 [iD (2 : Int), iD (2 : Int), iD r0]]) (fun d => ((D.vi d))) (fun r1 => iD r1) fun r1 => (some (iD r1))) else (if pl > (4196 : Int) then pullD (α := Int) (m_91 [.list 4 [iD pl, iD ph, iD tl, iD th, iD nl, iD nh, iD ul, iD uh]]) (fun d => ((D.vi d))) (fun r2 => iD r2) fun r2 => (pullD (α := Int) (m_45 [.list 3 [iD (2 : Int), iD (2 : Int), iD r2]]) (fun d => ((D.vi d))) (fun r3 => iD r3) fun r3 => (some (iD r3))) else (if ph < (1 : Int) then pullD (α := Int) (m_91 [.list 4 [iD pl, iD ph, iD tl, iD th, iD nl, iD nh, iD ul, iD uh]]) (fun d => ((D.vi d))) (fun r4 => iD r4) fun r4 => (pullD (α := Int) (m_45 [.list 3 [iD (2 : Int), iD (2 : Int), iD r4]]) (fun d => ((D.vi d))) (fun r5 => iD r5) fun r5 => (some (iD r5))) else (if ph > (4196 : Int) then pullD (α := Int) (m_91 [.list 4 [iD pl, iD ph, iD tl, iD th, iD nl, iD nh, iD ul, iD uh]]) (fun d => ((D.vi d))) (fun r6 => iD r6) fun r6 => (pullD (α := Int) (m_45 [.list 3 [iD (2 : Int), iD (2 : Int), iD r6]]) (fun d => ((D.vi d))) (fun r7 => iD r7) fun r7 => (some (iD r7))) else pullD (α := Int) (m_91 [.list 4 [iD pl, iD ph, iD tl, iD th, iD nl, iD nh, iD ul, iD uh]]) (fun d => ((D.vi d))) (fun r8 => iD r8) fun r8 => (pullD (α := Int) (m_45 [.list 3 [iD (2 : Int), iD (0 : Int), iD r8]]) (fun d => ((D.vi d))) (fun r9 => iD r9) fun r9 => (some (iD r9)))))))
def chkFigures_M_s1 (ga pl ph tl th nl nh ul uh : Int)  : Option D := (if pl < (1 : Int) then pullD (α := Int) (m_91 [.list 4 [iD pl, iD ph, iD tl, iD th, iD nl, iD nh, iD ul, iD uh]]) (fun d => ((D.vi d))) (fun r10 => iD r10) fun r10 => (pullD (α := Int) (m_45 [.list 3 [iD (2 : Int), iD (2 : Int), iD r10]]) (fun d => ((D.vi d))) (fun r11 => iD r11) fun r11 => (some (iD r11))) else (if pl > (4196 : Int) then pullD (α := Int) (m_91 [.list 4 [iD pl, iD ph, iD tl, iD th, iD nl, iD nh, iD ul, iD uh]]) (fun d => ((D.vi d))) (fun r12 => iD r12) fun r12 => (pullD (α := Int) (m_45 [.list 3 [iD (2 : Int), iD (2 : Int), iD r12]]) (fun d => ((D.vi d))) (fun r13 => iD r13) fun r13 => (some (iD r13))) else (if ph < (1 : Int) then pullD (α := Int) (m_91 [.list 4 [iD pl, iD ph, iD tl, iD th, iD nl, iD nh, iD ul, iD uh]]) (fun d => ((D.vi d))) (fun r14 => iD r14) fun r14 => (pullD (α := Int) (m_45 [.list 3 [iD (2 : Int), iD (2 : Int), iD r14]]) (fun d => ((D.vi d))) (fun r15 => iD r15) fun r15 => (some (iD r15))) else (if ph > (4196 : Int) then pullD (α := Int) (m_91 [.list 4 [iD pl, iD ph, iD tl, iD th, iD nl, iD nh, iD ul, iD uh]]) (fun d => ((D.vi d))) (fun r16 => iD r16) fun r16 => (pullD (α := Int) (m_45 [.list 3 [iD (2 : Int), iD (2 : Int), iD r16]]) (fun d => ((D.vi d))) (fun r17 => iD r17) fun r17 => (some (iD r17))) else pullD (α := Int) (m_91 [.list 4 [iD pl, iD ph, iD tl, iD th, iD nl, iD nh, iD ul, iD uh]]) (fun d => ((D.vi d))) (fun r18 => iD r18) fun r18 => (pullD (α := Int) (m_45 [.list 3 [iD (2 : Int), iD (0 : Int), iD r18]]) (fun d => ((D.vi d))) (fun r19 => iD r19) fun r19 => (some (iD r19)))))))
def chkFigures_M_s2 (ga pl ph tl th nl nh ul uh : Int)  : Option D := (if pl < (1 : Int) then pullD (α := Int) (m_91 [.list 4 [iD pl, iD ph, iD tl, iD th, iD nl, iD nh, iD ul, iD uh]]) (fun d => ((D.vi d))) (fun r20 => iD r20) fun r20 => (pullD (α := Int) (m_45 [.list 3 [iD (2 : Int), iD (2 : Int), iD r20]]) (fun d => ((D.vi d))) (fun r21 => iD r21) fun r21 => (some (iD r21))) else (if pl > (4196 : Int) then pullD (α := Int) (m_91 [.list 4 [iD pl, iD ph, iD tl, iD th, iD nl, iD nh, iD ul, iD uh]]) (fun d => ((D.vi d))) (fun r22 => iD r22) fun r22 => (pullD (α := Int) (m_45 [.list 3 [iD (2 : Int), iD (2 : Int), iD r22]]) (fun d => ((D.vi d))) (fun r23 => iD r23) fun r23 => (some (iD r23))) else (if ph < (1 : Int) then pullD (α := Int) (m_91 [.list 4 [iD pl, iD ph, iD tl, iD th, iD nl, iD nh, iD ul, iD uh]]) (fun d => ((D.vi d))) (fun r24 => iD r24) fun r24 => (pullD (α := Int) (m_45 [.list 3 [iD (2 : Int), iD (2 : Int), iD r24]]) (fun d => ((D.vi d))) (fun r25 => iD r25) fun r25 => (some (iD r25))) else (if ph > (4196 : Int) then pullD (α := Int) (m_91 [.list 4 [iD pl, iD ph, iD tl, iD th, iD nl, iD nh, iD ul, iD uh]]) (fun d => ((D.vi d))) (fun r26 => iD r26) fun r26 => (pullD (α := Int) (m_45 [.list 3 [iD (2 : Int), iD (2 : Int), iD r26]]) (fun d => ((D.vi d))) (fun r27 => iD r27) fun r27 => (some (iD r27))) else pullD (α := Int) (m_91 [.list 4 [iD pl, iD ph, iD tl, iD th, iD nl, iD nh, iD ul, iD uh]]) (fun d => ((D.vi d))) (fun r28 => iD r28) fun r28 => (pullD (α := Int) (m_45 [.list 3 [iD (2 : Int), iD (0 : Int), iD r28]]) (fun d => ((D.vi d))) (fun r29 => iD r29) fun r29 => (some (iD r29)))))))
def chkFigures_M_s3 (ga pl ph tl th nl nh ul uh : Int)  : Option D := (if pl < (1 : Int) then pullD (α := Int) (m_91 [.list 4 [iD pl, iD ph, iD tl, iD th, iD nl, iD nh, iD ul, iD uh]]) (fun d => ((D.vi d))) (fun r30 => iD r30) fun r30 => (pullD (α := Int) (m_45 [.list 3 [iD (2 : Int), iD (2 : Int), iD r30]]) (fun d => ((D.vi d))) (fun r31 => iD r31) fun r31 => (some (iD r31))) else (if pl > (4196 : Int) then pullD (α := Int) (m_91 [.list 4 [iD pl, iD ph, iD tl, iD th, iD nl, iD nh, iD ul, iD uh]]) (fun d => ((D.vi d))) (fun r32 => iD r32) fun r32 => (pullD (α := Int) (m_45 [.list 3 [iD (2 : Int), iD (2 : Int), iD r32]]) (fun d => ((D.vi d))) (fun r33 => iD r33) fun r33 => (some (iD r33))) else (if ph < (1 : Int) then pullD (α := Int) (m_91 [.list 4 [iD pl, iD ph, iD tl, iD th, iD nl, iD nh, iD ul, iD uh]]) (fun d => ((D.vi d))) (fun r34 => iD r34) fun r34 => (pullD (α := Int) (m_45 [.list 3 [iD (2 : Int), iD (2 : Int), iD r34]]) (fun d => ((D.vi d))) (fun r35 => iD r35) fun r35 => (some (iD r35))) else (if ph > (4196 : Int) then pullD (α := Int) (m_91 [.list 4 [iD pl, iD ph, iD tl, iD th, iD nl, iD nh, iD ul, iD uh]]) (fun d => ((D.vi d))) (fun r36 => iD r36) fun r36 => (pullD (α := Int) (m_45 [.list 3 [iD (2 : Int), iD (2 : Int), iD r36]]) (fun d => ((D.vi d))) (fun r37 => iD r37) fun r37 => (some (iD r37))) else pullD (α := Int) (m_91 [.list 4 [iD pl, iD ph, iD tl, iD th, iD nl, iD nh, iD ul, iD uh]]) (fun d => ((D.vi d))) (fun r38 => iD r38) fun r38 => (pullD (α := Int) (m_45 [.list 3 [iD (2 : Int), iD (0 : Int), iD r38]]) (fun d => ((D.vi d))) (fun r39 => iD r39) fun r39 => (some (iD r39)))))))
def chkFigures_M_s4 (ga pl ph tl th nl nh ul uh : Int)  : Option D := (if pl < (1 : Int) then pullD (α := Int) (m_91 [.list 4 [iD pl, iD ph, iD tl, iD th, iD nl, iD nh, iD ul, iD uh]]) (fun d => ((D.vi d))) (fun r40 => iD r40) fun r40 => (pullD (α := Int) (m_45 [.list 3 [iD (2 : Int), iD (2 : Int), iD r40]]) (fun d => ((D.vi d))) (fun r41 => iD r41) fun r41 => (some (iD r41))) else (if pl > (4196 : Int) then pullD (α := Int) (m_91 [.list 4 [iD pl, iD ph, iD tl, iD th, iD nl, iD nh, iD ul, iD uh]]) (fun d => ((D.vi d))) (fun r42 => iD r42) fun r42 => (pullD (α := Int) (m_45 [.list 3 [iD (2 : Int), iD (2 : Int), iD r42]]) (fun d => ((D.vi d))) (fun r43 => iD r43) fun r43 => (some (iD r43))) else (if ph < (1 : Int) then pullD (α := Int) (m_91 [.list 4 [iD pl, iD ph, iD tl, iD th, iD nl, iD nh, iD ul, iD uh]]) (fun d => ((D.vi d))) (fun r44 => iD r44) fun r44 => (pullD (α := Int) (m_45 [.list 3 [iD (2 : Int), iD (2 : Int), iD r44]]) (fun d => ((D.vi d))) (fun r45 => iD r45) fun r45 => (some (iD r45))) else (if ph > (4196 : Int) then pullD (α := Int) (m_91 [.list 4 [iD pl, iD ph, iD tl, iD th, iD nl, iD nh, iD ul, iD uh]]) (fun d => ((D.vi d))) (fun r46 => iD r46) fun r46 => (pullD (α := Int) (m_45 [.list 3 [iD (2 : Int), iD (2 : Int), iD r46]]) (fun d => ((D.vi d))) (fun r47 => iD r47) fun r47 => (some (iD r47))) else pullD (α := Int) (m_91 [.list 4 [iD pl, iD ph, iD tl, iD th, iD nl, iD nh, iD ul, iD uh]]) (fun d => ((D.vi d))) (fun r48 => iD r48) fun r48 => (pullD (α := Int) (m_45 [.list 3 [iD (2 : Int), iD (0 : Int), iD r48]]) (fun d => ((D.vi d))) (fun r49 => iD r49) fun r49 => (some (iD r49)))))))
def chkFigures_M_s5 (ga pl ph tl th nl nh ul uh : Int)  : Option D := (if pl < (1 : Int) then pullD (α := Int) (m_91 [.list 4 [iD pl, iD ph, iD tl, iD th, iD nl, iD nh, iD ul, iD uh]]) (fun d => ((D.vi d))) (fun r50 => iD r50) fun r50 => (pullD (α := Int) (m_45 [.list 3 [iD (2 : Int), iD (2 : Int), iD r50]]) (fun d => ((D.vi d))) (fun r51 => iD r51) fun r51 => (some (iD r51))) else (if pl > (4196 : Int) then pullD (α := Int) (m_91 [.list 4 [iD pl, iD ph, iD tl, iD th, iD nl, iD nh, iD ul, iD uh]]) (fun d => ((D.vi d))) (fun r52 => iD r52) fun r52 => (pullD (α := Int) (m_45 [.list 3 [iD (2 : Int), iD (2 : Int), iD r52]]) (fun d => ((D.vi d))) (fun r53 => iD r53) fun r53 => (some (iD r53))) else (if ph < (1 : Int) then pullD (α := Int) (m_91 [.list 4 [iD pl, iD ph, iD tl, iD th, iD nl, iD nh, iD ul, iD uh]]) (fun d => ((D.vi d))) (fun r54 => iD r54) fun r54 => (pullD (α := Int) (m_45 [.list 3 [iD (2 : Int), iD (2 : Int), iD r54]]) (fun d => ((D.vi d))) (fun r55 => iD r55) fun r55 => (some (iD r55))) else (if ph > (4196 : Int) then pullD (α := Int) (m_91 [.list 4 [iD pl, iD ph, iD tl, iD th, iD nl, iD nh, iD ul, iD uh]]) (fun d => ((D.vi d))) (fun r56 => iD r56) fun r56 => (pullD (α := Int) (m_45 [.list 3 [iD (2 : Int), iD (2 : Int), iD r56]]) (fun d => ((D.vi d))) (fun r57 => iD r57) fun r57 => (some (iD r57))) else pullD (α := Int) (m_91 [.list 4 [iD pl, iD ph, iD tl, iD th, iD nl, iD nh, iD ul, iD uh]]) (fun d => ((D.vi d))) (fun r58 => iD r58) fun r58 => (pullD (α := Int) (m_45 [.list 3 [iD (2 : Int), iD (0 : Int), iD r58]]) (fun d => ((D.vi d))) (fun r59 => iD r59) fun r59 => (some (iD r59)))))))
def chkFigures_M_s6 (ga pl ph tl th nl nh ul uh : Int)  : Option D := (if pl < (1 : Int) then pullD (α := Int) (m_91 [.list 4 [iD pl, iD ph, iD tl, iD th, iD nl, iD nh, iD ul, iD uh]]) (fun d => ((D.vi d))) (fun r60 => iD r60) fun r60 => (pullD (α := Int) (m_45 [.list 3 [iD (2 : Int), iD (2 : Int), iD r60]]) (fun d => ((D.vi d))) (fun r61 => iD r61) fun r61 => (some (iD r61))) else (if pl > (4196 : Int) then pullD (α := Int) (m_91 [.list 4 [iD pl, iD ph, iD tl, iD th, iD nl, iD nh, iD ul, iD uh]]) (fun d => ((D.vi d))) (fun r62 => iD r62) fun r62 => (pullD (α := Int) (m_45 [.list 3 [iD (2 : Int), iD (2 : Int), iD r62]]) (fun d => ((D.vi d))) (fun r63 => iD r63) fun r63 => (some (iD r63))) else (if ph < (1 : Int) then pullD (α := Int) (m_91 [.list 4 [iD pl, iD ph, iD tl, iD th, iD nl, iD nh, iD ul, iD uh]]) (fun d => ((D.vi d))) (fun r64 => iD r64) fun r64 => (pullD (α := Int) (m_45 [.list 3 [iD (2 : Int), iD (2 : Int), iD r64]]) (fun d => ((D.vi d))) (fun r65 => iD r65) fun r65 => (some (iD r65))) else (if ph > (4196 : Int) then pullD (α := Int) (m_91 [.list 4 [iD pl, iD ph, iD tl, iD th, iD nl, iD nh, iD ul, iD uh]]) (fun d => ((D.vi d))) (fun r66 => iD r66) fun r66 => (pullD (α := Int) (m_45 [.list 3 [iD (2 : Int), iD (2 : Int), iD r66]]) (fun d => ((D.vi d))) (fun r67 => iD r67) fun r67 => (some (iD r67))) else pullD (α := Int) (m_91 [.list 4 [iD pl, iD ph, iD tl, iD th, iD nl, iD nh, iD ul, iD uh]]) (fun d => ((D.vi d))) (fun r68 => iD r68) fun r68 => (pullD (α := Int) (m_45 [.list 3 [iD (2 : Int), iD (0 : Int), iD r68]]) (fun d => ((D.vi d))) (fun r69 => iD r69) fun r69 => (some (iD r69)))))))
def chkFigures_M_s7 (ga pl ph tl th nl nh ul uh : Int)  : Option D := (if pl < (1 : Int) then pullD (α := Int) (m_91 [.list 4 [iD pl, iD ph, iD tl, iD th, iD nl, iD nh, iD ul, iD uh]]) (fun d => ((D.vi d))) (fun r70 => iD r70) fun r70 => (pullD (α := Int) (m_45 [.list 3 [iD (2 : Int), iD (2 : Int), iD r70]]) (fun d => ((D.vi d))) (fun r71 => iD r71) fun r71 => (some (iD r71))) else (if pl > (4196 : Int) then pullD (α := Int) (m_91 [.list 4 [iD pl, iD ph, iD tl, iD th, iD nl, iD nh, iD ul, iD uh]]) (fun d => ((D.vi d))) (fun r72 => iD r72) fun r72 => (pullD (α := Int) (m_45 [.list 3 [iD (2 : Int), iD (2 : Int), iD r72]]) (fun d => ((D.vi d))) (fun r73 => iD r73) fun r73 => (some (iD r73))) else (if ph < (1 : Int) then pullD (α := Int) (m_91 [.list 4 [iD pl, iD ph, iD tl, iD th, iD nl, iD nh, iD ul, iD uh]]) (fun d => ((D.vi d))) (fun r74 => iD r74) fun r74 => (pullD (α := Int) (m_45 [.list 3 [iD (2 : Int), iD (2 : Int), iD r74]]) (fun d => ((D.vi d))) (fun r75 => iD r75) fun r75 => (some (iD r75))) else (if ph > (4196 : Int) then pullD (α := Int) (m_91 [.list 4 [iD pl, iD ph, iD tl, iD th, iD nl, iD nh, iD ul, iD uh]]) (fun d => ((D.vi d))) (fun r76 => iD r76) fun r76 => (pullD (α := Int) (m_45 [.list 3 [iD (2 : Int), iD (2 : Int), iD r76]]) (fun d => ((D.vi d))) (fun r77 => iD r77) fun r77 => (some (iD r77))) else pullD (α := Int) (m_91 [.list 4 [iD pl, iD ph, iD tl, iD th, iD nl, iD nh, iD ul, iD uh]]) (fun d => ((D.vi d))) (fun r78 => iD r78) fun r78 => (pullD (α := Int) (m_45 [.list 3 [iD (2 : Int), iD (0 : Int), iD r78]]) (fun d => ((D.vi d))) (fun r79 => iD r79) fun r79 => (some (iD r79)))))))
def chkFigures_M_s8 (ga pl ph tl th nl nh ul uh : Int)  : Option D := (if pl < (1 : Int) then pullD (α := Int) (m_91 [.list 4 [iD pl, iD ph, iD tl, iD th, iD nl, iD nh, iD ul, iD uh]]) (fun d => ((D.vi d))) (fun r80 => iD r80) fun r80 => (pullD (α := Int) (m_45 [.list 3 [iD (2 : Int), iD (2 : Int), iD r80]]) (fun d => ((D.vi d))) (fun r81 => iD r81) fun r81 => (some (iD r81))) else (if pl > (4196 : Int) then pullD (α := Int) (m_91 [.list 4 [iD pl, iD ph, iD tl, iD th, iD nl, iD nh, iD ul, iD uh]]) (fun d => ((D.vi d))) (fun r82 => iD r82) fun r82 => (pullD (α := Int) (m_45 [.list 3 [iD (2 : Int), iD (2 : Int), iD r82]]) (fun d => ((D.vi d))) (fun r83 => iD r83) fun r83 => (some (iD r83))) else (if ph < (1 : Int) then pullD (α := Int) (m_91 [.list 4 [iD pl, iD ph, iD tl, iD th, iD nl, iD nh, iD ul, iD uh]]) (fun d => ((D.vi d))) (fun r84 => iD r84) fun r84 => (pullD (α := Int) (m_45 [.list 3 [iD (2 : Int), iD (2 : Int), iD r84]]) (fun d => ((D.vi d))) (fun r85 => iD r85) fun r85 => (some (iD r85))) else (if ph > (4196 : Int) then pullD (α := Int) (m_91 [.list 4 [iD pl, iD ph, iD tl, iD th, iD nl, iD nh, iD ul, iD uh]]) (fun d => ((D.vi d))) (fun r86 => iD r86) fun r86 => (pullD (α := Int) (m_45 [.list 3 [iD (2 : Int), iD (2 : Int), iD r86]]) (fun d => ((D.vi d))) (fun r87 => iD r87) fun r87 => (some (iD r87))) else pullD (α := Int) (m_91 [.list 4 [iD pl, iD ph, iD tl, iD th, iD nl, iD nh, iD ul, iD uh]]) (fun d => ((D.vi d))) (fun r88 => iD r88) fun r88 => (pullD (α := Int) (m_45 [.list 3 [iD (2 : Int), iD (0 : Int), iD r88]]) (fun d => ((D.vi d))) (fun r89 => iD r89) fun r89 => (some (iD r89)))))))
def chkFigures_M_s9 (ga pl ph tl th nl nh ul uh : Int)  : Option D := (if pl < (1 : Int) then pullD (α := Int) (m_91 [.list 4 [iD pl, iD ph, iD tl, iD th, iD nl, iD nh, iD ul, iD uh]]) (fun d => ((D.vi d))) (fun r90 => iD r90) fun r90 => (pullD (α := Int) (m_45 [.list 3 [iD (2 : Int), iD (2 : Int), iD r90]]) (fun d => ((D.vi d))) (fun r91 => iD r91) fun r91 => (some (iD r91))) else (if pl > (4196 : Int) then pullD (α := Int) (m_91 [.list 4 [iD pl, iD ph, iD tl, iD th, iD nl, iD nh, iD ul, iD uh]]) (fun d => ((D.vi d))) (fun r92 => iD r92) fun r92 => (pullD (α := Int) (m_45 [.list 3 [iD (2 : Int), iD (2 : Int), iD r92]]) (fun d => ((D.vi d))) (fun r93 => iD r93) fun r93 => (some (iD r93))) else (if ph < (1 : Int) then pullD (α := Int) (m_91 [.list 4 [iD pl, iD ph, iD tl, iD th, iD nl, iD nh, iD ul, iD uh]]) (fun d => ((D.vi d))) (fun r94 => iD r94) fun r94 => (pullD (α := Int) (m_45 [.list 3 [iD (2 : Int), iD (2 : Int), iD r94]]) (fun d => ((D.vi d))) (fun r95 => iD r95) fun r95 => (some (iD r95))) else (if ph > (4196 : Int) then pullD (α := Int) (m_91 [.list 4 [iD pl, iD ph, iD tl, iD th, iD nl, iD nh, iD ul, iD uh]]) (fun d => ((D.vi d))) (fun r96 => iD r96) fun r96 => (pullD (α := Int) (m_45 [.list 3 [iD (2 : Int), iD (2 : Int), iD r96]]) (fun d => ((D.vi d))) (fun r97 => iD r97) fun r97 => (some (iD r97))) else pullD (α := Int) (m_91 [.list 4 [iD pl, iD ph, iD tl, iD th, iD nl, iD nh, iD ul, iD uh]]) (fun d => ((D.vi d))) (fun r98 => iD r98) fun r98 => (pullD (α := Int) (m_45 [.list 3 [iD (2 : Int), iD (0 : Int), iD r98]]) (fun d => ((D.vi d))) (fun r99 => iD r99) fun r99 => (some (iD r99)))))))
def chkFigures_M_s10 (ga pl ph tl th nl nh ul uh : Int)  : Option D := (if pl < (1 : Int) then pullD (α := Int) (m_91 [.list 4 [iD pl, iD ph, iD tl, iD th, iD nl, iD nh, iD ul, iD uh]]) (fun d => ((D.vi d))) (fun r100 => iD r100) fun r100 => (pullD (α := Int) (m_45 [.list 3 [iD (2 : Int), iD (2 : Int), iD r100]]) (fun d => ((D.vi d))) (fun r101 => iD r101) fun r101 => (some (iD r101))) else (if pl > (4196 : Int) then pullD (α := Int) (m_91 [.list 4 [iD pl, iD ph, iD tl, iD th, iD nl, iD nh, iD ul, iD uh]]) (fun d => ((D.vi d))) (fun r102 => iD r102) fun r102 => (pullD (α := Int) (m_45 [.list 3 [iD (2 : Int), iD (2 : Int), iD r102]]) (fun d => ((D.vi d))) (fun r103 => iD r103) fun r103 => (some (iD r103))) else (if ph < (1 : Int) then pullD (α := Int) (m_91 [.list 4 [iD pl, iD ph, iD tl, iD th, iD nl, iD nh, iD ul, iD uh]]) (fun d => ((D.vi d))) (fun r104 => iD r104) fun r104 => (pullD (α := Int) (m_45 [.list 3 [iD (2 : Int), iD (2 : Int), iD r104]]) (fun d => ((D.vi d))) (fun r105 => iD r105) fun r105 => (some (iD r105))) else (if ph > (4196 : Int) then pullD (α := Int) (m_91 [.list 4 [iD pl, iD ph, iD tl, iD th, iD nl, iD nh, iD ul, iD uh]]) (fun d => ((D.vi d))) (fun r106 => iD r106) fun r106 => (pullD (α := Int) (m_45 [.list 3 [iD (2 : Int), iD (2 : Int), iD r106]]) (fun d => ((D.vi d))) (fun r107 => iD r107) fun r107 => (some (iD r107))) else pullD (α := Int) (m_91 [.list 4 [iD pl, iD ph, iD tl, iD th, iD nl, iD nh, iD ul, iD uh]]) (fun d => ((D.vi d))) (fun r108 => iD r108) fun r108 => (pullD (α := Int) (m_45 [.list 3 [iD (2 : Int), iD (0 : Int), iD r108]]) (fun d => ((D.vi d))) (fun r109 => iD r109) fun r109 => (some (iD r109)))))))
def chkFigures_M_s11 (ga pl ph tl th nl nh ul uh : Int)  : Option D := (if ul > (63 : Int) then (if pl < (1 : Int) then pullD (α := Int) (m_91 [.list 4 [iD pl, iD ph, iD tl, iD th, iD nl, iD nh, iD ul, iD uh]]) (fun d => ((D.vi d))) (fun r110 => iD r110) fun r110 => (pullD (α := Int) (m_45 [.list 3 [iD (2 : Int), iD (2 : Int), iD r110]]) (fun d => ((D.vi d))) (fun r111 => iD r111) fun r111 => (some (iD r111))) else (if pl > (4196 : Int) then pullD (α := Int) (m_91 [.list 4 [iD pl, iD ph, iD tl, iD th, iD nl, iD nh, iD ul, iD uh]]) (fun d => ((D.vi d))) (fun r112 => iD r112) fun r112 => (pullD (α := Int) (m_45 [.list 3 [iD (2 : Int), iD (2 : Int), iD r112]]) (fun d => ((D.vi d))) (fun r113 => iD r113) fun r113 => (some (iD r113))) else (if ph < (1 : Int) then pullD (α := Int) (m_91 [.list 4 [iD pl, iD ph, iD tl, iD th, iD nl, iD nh, iD ul, iD uh]]) (fun d => ((D.vi d))) (fun r114 => iD r114) fun r114 => (pullD (α := Int) (m_45 [.list 3 [iD (2 : Int), iD (2 : Int), iD r114]]) (fun d => ((D.vi d))) (fun r115 => iD r115) fun r115 => (some (iD r115))) else (if ph > (4196 : Int) then pullD (α := Int) (m_91 [.list 4 [iD pl, iD ph, iD tl, iD th, iD nl, iD nh, iD ul, iD uh]]) (fun d => ((D.vi d))) (fun r116 => iD r116) fun r116 => (pullD (α := Int) (m_45 [.list 3 [iD (2 : Int), iD (2 : Int), iD r116]]) (fun d => ((D.vi d))) (fun r117 => iD r117) fun r117 => (some (iD r117))) else pullD (α := Int) (m_91 [.list 4 [iD pl, iD ph, iD tl, iD th, iD nl, iD nh, iD ul, iD uh]]) (fun d => ((D.vi d))) (fun r118 => iD r118) fun r118 => (pullD (α := Int) (m_45 [.list 3 [iD (2 : Int), iD (0 : Int), iD r118]]) (fun d => ((D.vi d))) (fun r119 => iD r119) fun r119 => (some (iD r119))))))) else (if uh < (0 : Int) then (if pl < (1 : Int) then pullD (α := Int) (m_91 [.list 4 [iD pl, iD ph, iD tl, iD th, iD nl, iD nh, iD ul, iD uh]]) (fun d => ((D.vi d))) (fun r120 => iD r120) fun r120 => (pullD (α := Int) (m_45 [.list 3 [iD (2 : Int), iD (2 : Int), iD r120]]) (fun d => ((D.vi d))) (fun r121 => iD r121) fun r121 => (some (iD r121))) else (if pl > (4196 : Int) then pullD (α := Int) (m_91 [.list 4 [iD pl, iD ph, iD tl, iD th, iD nl, iD nh, iD ul, iD uh]]) (fun d => ((D.vi d))) (fun r122 => iD r122) fun r122 => (pullD (α := Int) (m_45 [.list 3 [iD (2 : Int), iD (2 : Int), iD r122]]) (fun d => ((D.vi d))) (fun r123 => iD r123) fun r123 => (some (iD r123))) else (if ph < (1 : Int) then pullD (α := Int) (m_91 [.list 4 [iD pl, iD ph, iD tl, iD th, iD nl, iD nh, iD ul, iD uh]]) (fun d => ((D.vi d))) (fun r124 => iD r124) fun r124 => (pullD (α := Int) (m_45 [.list 3 [iD (2 : Int), iD (2 : Int), iD r124]]) (fun d => ((D.vi d))) (fun r125 => iD r125) fun r125 => (some (iD r125))) else (if ph > (4196 : Int) then pullD (α := Int) (m_91 [.list 4 [iD pl, iD ph, iD tl, iD th, iD nl, iD nh, iD ul, iD uh]]) (fun d => ((D.vi d))) (fun r126 => iD r126) fun r126 => (pullD (α := Int) (m_45 [.list 3 [iD (2 : Int), iD (2 : Int), iD r126]]) (fun d => ((D.vi d))) (fun r127 => iD r127) fun r127 => (some (iD r127))) else pullD (α := Int) (m_91 [.list 4 [iD pl, iD ph, iD tl, iD th, iD nl, iD nh, iD ul, iD uh]]) (fun d => ((D.vi d))) (fun r128 => iD r128) fun r128 => (pullD (α := Int) (m_45 [.list 3 [iD (2 : Int), iD (0 : Int), iD r128]]) (fun d => ((D.vi d))) (fun r129 => iD r129) fun r129 => (some (iD r129))))))) else (if uh > (63 : Int) then (if pl < (1 : Int) then pullD (α := Int) (m_91 [.list 4 [iD pl, iD ph, iD tl, iD th, iD nl, iD nh, iD ul, iD uh]]) (fun d => ((D.vi d))) (fun r130 => iD r130) fun r130 => (pullD (α := Int) (m_45 [.list 3 [iD (2 : Int), iD (2 : Int), iD r130]]) (fun d => ((D.vi d))) (fun r131 => iD r131) fun r131 => (some (iD r131))) else (if pl > (4196 : Int) then pullD (α := Int) (m_91 [.list 4 [iD pl, iD ph, iD tl, iD th, iD nl, iD nh, iD ul, iD uh]]) (fun d => ((D.vi d))) (fun r132 => iD r132) fun r132 => (pullD (α := Int) (m_45 [.list 3 [iD (2 : Int), iD (2 : Int), iD r132]]) (fun d => ((D.vi d))) (fun r133 => iD r133) fun r133 => (some (iD r133))) else (if ph < (1 : Int) then pullD (α := Int) (m_91 [.list 4 [iD pl, iD ph, iD tl, iD th, iD nl, iD nh, iD ul, iD uh]]) (fun d => ((D.vi d))) (fun r134 => iD r134) fun r134 => (pullD (α := Int) (m_45 [.list 3 [iD (2 : Int), iD (2 : Int), iD r134]]) (fun d => ((D.vi d))) (fun r135 => iD r135) fun r135 => (some (iD r135))) else (if ph > (4196 : Int) then pullD (α := Int) (m_91 [.list 4 [iD pl, iD ph, iD tl, iD th, iD nl, iD nh, iD ul, iD uh]]) (fun d => ((D.vi d))) (fun r136 => iD r136) fun r136 => (pullD (α := Int) (m_45 [.list 3 [iD (2 : Int), iD (2 : Int), iD r136]]) (fun d => ((D.vi d))) (fun r137 => iD r137) fun r137 => (some (iD r137))) else pullD (α := Int) (m_91 [.list 4 [iD pl, iD ph, iD tl, iD th, iD nl, iD nh, iD ul, iD uh]]) (fun d => ((D.vi d))) (fun r138 => iD r138) fun r138 => (pullD (α := Int) (m_45 [.list 3 [iD (2 : Int), iD (0 : Int), iD r138]]) (fun d => ((D.vi d))) (fun r139 => iD r139) fun r139 => (some (iD r139))))))) else (if pl < (1 : Int) then pullD (α := Int) (m_91 [.list 4 [iD pl, iD ph, iD tl, iD th, iD nl, iD nh, iD ul, iD uh]]) (fun d => ((D.vi d))) (fun r140 => iD r140) fun r140 => (pullD (α := Int) (m_45 [.list 3 [iD (0 : Int), iD (2 : Int), iD r140]]) (fun d => ((D.vi d))) (fun r141 => iD r141) fun r141 => (some (iD r141))) else (if pl > (4196 : Int) then pullD (α := Int) (m_91 [.list 4 [iD pl, iD ph, iD tl, iD th, iD nl, iD nh, iD ul, iD uh]]) (fun d => ((D.vi d))) (fun r142 => iD r142) fun r142 => (pullD (α := Int) (m_45 [.list 3 [iD (0 : Int), iD (2 : Int), iD r142]]) (fun d => ((D.vi d))) (fun r143 => iD r143) fun r143 => (some (iD r143))) else (if ph < (1 : Int) then pullD (α := Int) (m_91 [.list 4 [iD pl, iD ph, iD tl, iD th, iD nl, iD nh, iD ul, iD uh]]) (fun d => ((D.vi d))) (fun r144 => iD r144) fun r144 => (pullD (α := Int) (m_45 [.list 3 [iD (0 : Int), iD (2 : Int), iD r144]]) (fun d => ((D.vi d))) (fun r145 => iD r145) fun r145 => (some (iD r145))) else (if ph > (4196 : Int) then pullD (α := Int) (m_91 [.list 4 [iD pl, iD ph, iD tl, iD th, iD nl, iD nh, iD ul, iD uh]]) (fun d => ((D.vi d))) (fun r146 => iD r146) fun r146 => (pullD (α := Int) (m_45 [.list 3 [iD (0 : Int), iD (2 : Int), iD r146]]) (fun d => ((D.vi d))) (fun r147 => iD r147) fun r147 => (some (iD r147))) else pullD (α := Int) (m_91 [.list 4 [iD pl, iD ph, iD tl, iD th, iD nl, iD nh, iD ul, iD uh]]) (fun d => ((D.vi d))) (fun r148 => iD r148) fun r148 => (pullD (α := Int) (m_45 [.list 3 [iD (0 : Int), iD (0 : Int), iD r148]]) (fun d => ((D.vi d))) (fun r149 => iD r149) fun r149 => (some (iD r149))))))))))
def chkFigures_M (ga pl ph tl th nl nh ul uh : Int) : Option D := (if ga < (0 : Int) then chkFigures_M_s0 ga pl ph tl th nl nh ul uh else (if ga > (63 : Int) then chkFigures_M_s1 ga pl ph tl th nl nh ul uh else (if tl < (0 : Int) then chkFigures_M_s2 ga pl ph tl th nl nh ul uh else (if tl > (63 : Int) then chkFigures_M_s3 ga pl ph tl th nl nh ul uh else (if th < (0 : Int) then chkFigures_M_s4 ga pl ph tl th nl nh ul uh else (if th > (63 : Int) then chkFigures_M_s5 ga pl ph tl th nl nh ul uh else (if nl < (0 : Int) then chkFigures_M_s6 ga pl ph tl th nl nh ul uh else (if nl > (63 : Int) then chkFigures_M_s7 ga pl ph tl th nl nh ul uh else (if nh < (0 : Int) then chkFigures_M_s8 ga pl ph tl th nl nh ul uh else (if nh > (63 : Int) then chkFigures_M_s9 ga pl ph tl th nl nh ul uh else (if ul < (0 : Int) then chkFigures_M_s10 ga pl ph tl th nl nh ul uh else chkFigures_M_s11 ga pl ph tl th nl nh ul uh)))))))))))
theorem chkFigures_M_s0_ok (ga pl ph tl th nl nh ul uh : Int)  (b1_ : ga < (0 : Int)) {r : D} (h : chkFigures_M_s0 ga pl ph tl th nl nh ul uh = some r) : Con 64 [(shNL7_0 ga pl ph tl th nl nh ul uh)] r := by
  unfold chkFigures_M_s0 at h
  by_cases bq1_ : pl < (1 : Int)
  · have hq2_ := (if_pos bq1_).symm.trans h
    obtain ⟨r0, fq3_, hq4_⟩ := pullD_elim hq2_
    replace fq3_ := m_91_ok fq3_
    obtain ⟨r1, fq5_, hq6_⟩ := pullD_elim hq4_
    replace fq5_ := m_45_ok fq5_
    obtain rfl := Option.some.inj hq6_
    exact con_pc (op := true) (I := [64, 90, 101]) (sp := chkFigures_sp) 3000 (bT 12 []) [iD r0, iD r1] [c_T, c_d b1_, c_d b1_, c_d b1_, c_d b1_, c_T, c_T, c_d bq1_, c_d bq1_, c_d bq1_, c_d bq1_, c_T, c_le 3, c_le 2] [k_c fq3_, k_c fq5_] (by kernel_rfl)
  have hq2_ := (if_neg bq1_).symm.trans h
  by_cases bq7_ : pl > (4196 : Int)
  · have hq8_ := (if_pos bq7_).symm.trans hq2_
    obtain ⟨r2, fq9_, hq10_⟩ := pullD_elim hq8_
    replace fq9_ := m_91_ok fq9_
    obtain ⟨r3, fq11_, hq12_⟩ := pullD_elim hq10_
    replace fq11_ := m_45_ok fq11_
    obtain rfl := Option.some.inj hq12_
    exact con_pc (op := true) (I := [64, 90, 101]) (sp := chkFigures_sp) 3000 (bT 7 (bF 4 (bT 1 []))) [iD r2, iD r3] [c_T, c_d b1_, c_d b1_, c_d b1_, c_d b1_, c_T, c_T, c_n bq1_, c_n bq1_, c_n bq1_, c_n bq1_, c_d bq7_, c_le 3, c_le 2] [k_c fq9_, k_c fq11_] (by kernel_rfl)
  have hq8_ := (if_neg bq7_).symm.trans hq2_
  by_cases bq13_ : ph < (1 : Int)
  · have hq14_ := (if_pos bq13_).symm.trans hq8_
    obtain ⟨r4, fq15_, hq16_⟩ := pullD_elim hq14_
    replace fq15_ := m_91_ok fq15_
    obtain ⟨r5, fq17_, hq18_⟩ := pullD_elim hq16_
    replace fq17_ := m_45_ok fq17_
    obtain rfl := Option.some.inj hq18_
    exact con_pc (op := true) (I := [64, 90, 101]) (sp := chkFigures_sp) 3000 (bT 7 (bF 5 (bT 6 []))) [iD r4, iD r5] [c_T, c_d b1_, c_d b1_, c_d b1_, c_d b1_, c_T, c_T, c_n bq1_, c_n bq1_, c_n bq1_, c_n bq1_, c_n bq7_, c_T, c_d bq13_, c_d bq13_, c_d bq13_, c_d bq13_, c_T, c_le 3, c_le 2] [k_c fq15_, k_c fq17_] (by kernel_rfl)
  have hq14_ := (if_neg bq13_).symm.trans hq8_
  by_cases bq19_ : ph > (4196 : Int)
  · have hq20_ := (if_pos bq19_).symm.trans hq14_
    obtain ⟨r6, fq21_, hq22_⟩ := pullD_elim hq20_
    replace fq21_ := m_91_ok fq21_
    obtain ⟨r7, fq23_, hq24_⟩ := pullD_elim hq22_
    replace fq23_ := m_45_ok fq23_
    obtain rfl := Option.some.inj hq24_
    exact con_pc (op := true) (I := [64, 90, 101]) (sp := chkFigures_sp) 3000 (bT 7 (bF 5 (bT 1 (bF 4 (bT 1 []))))) [iD r6, iD r7] [c_T, c_d b1_, c_d b1_, c_d b1_, c_d b1_, c_T, c_T, c_n bq1_, c_n bq1_, c_n bq1_, c_n bq1_, c_n bq7_, c_T, c_n bq13_, c_n bq13_, c_n bq13_, c_n bq13_, c_d bq19_, c_le 3, c_le 2] [k_c fq21_, k_c fq23_] (by kernel_rfl)
  have hq20_ := (if_neg bq19_).symm.trans hq14_
  obtain ⟨r8, fq25_, hq26_⟩ := pullD_elim hq20_
  replace fq25_ := m_91_ok fq25_
  obtain ⟨r9, fq27_, hq28_⟩ := pullD_elim hq26_
  replace fq27_ := m_45_ok fq27_
  obtain rfl := Option.some.inj hq28_
  exact con_pc (op := true) (I := [64, 90, 101]) (sp := chkFigures_sp) 3000 (bT 7 (bF 5 (bT 1 (bF 6 [])))) [iD r8, iD r9] [c_T, c_d b1_, c_d b1_, c_d b1_, c_d b1_, c_T, c_T, c_n bq1_, c_n bq1_, c_n bq1_, c_n bq1_, c_n bq7_, c_T, c_n bq13_, c_n bq13_, c_n bq13_, c_n bq13_, c_n bq19_, c_F, c_le 3, c_le 2] [k_c fq25_, k_c fq27_] (by kernel_rfl)
theorem chkFigures_M_s1_ok (ga pl ph tl th nl nh ul uh : Int)  (b1_ : ¬ (ga < (0 : Int))) (b3_ : ga > (63 : Int)) {r : D} (h : chkFigures_M_s1 ga pl ph tl th nl nh ul uh = some r) : Con 64 [(shNL7_0 ga pl ph tl th nl nh ul uh)] r := by
  unfold chkFigures_M_s1 at h
  by_cases bq1_ : pl < (1 : Int)
  · have hq2_ := (if_pos bq1_).symm.trans h
    obtain ⟨r10, fq3_, hq4_⟩ := pullD_elim hq2_
    replace fq3_ := m_91_ok fq3_
    obtain ⟨r11, fq5_, hq6_⟩ := pullD_elim hq4_
    replace fq5_ := m_45_ok fq5_
    obtain rfl := Option.some.inj hq6_
    exact con_pc (op := true) (I := [64, 90, 101]) (sp := chkFigures_sp) 3000 (bT 1 (bF 4 (bT 7 []))) [iD r10, iD r11] [c_T, c_n b1_, c_n b1_, c_n b1_, c_n b1_, c_d b3_, c_T, c_d bq1_, c_d bq1_, c_d bq1_, c_d bq1_, c_T, c_le 3, c_le 2] [k_c fq3_, k_c fq5_] (by kernel_rfl)
  have hq2_ := (if_neg bq1_).symm.trans h
  by_cases bq7_ : pl > (4196 : Int)
  · have hq8_ := (if_pos bq7_).symm.trans hq2_
    obtain ⟨r12, fq9_, hq10_⟩ := pullD_elim hq8_
    replace fq9_ := m_91_ok fq9_
    obtain ⟨r13, fq11_, hq12_⟩ := pullD_elim hq10_
    replace fq11_ := m_45_ok fq11_
    obtain rfl := Option.some.inj hq12_
    exact con_pc (op := true) (I := [64, 90, 101]) (sp := chkFigures_sp) 3000 (bT 1 (bF 4 (bT 2 (bF 4 (bT 1 []))))) [iD r12, iD r13] [c_T, c_n b1_, c_n b1_, c_n b1_, c_n b1_, c_d b3_, c_T, c_n bq1_, c_n bq1_, c_n bq1_, c_n bq1_, c_d bq7_, c_le 3, c_le 2] [k_c fq9_, k_c fq11_] (by kernel_rfl)
  have hq8_ := (if_neg bq7_).symm.trans hq2_
  by_cases bq13_ : ph < (1 : Int)
  · have hq14_ := (if_pos bq13_).symm.trans hq8_
    obtain ⟨r14, fq15_, hq16_⟩ := pullD_elim hq14_
    replace fq15_ := m_91_ok fq15_
    obtain ⟨r15, fq17_, hq18_⟩ := pullD_elim hq16_
    replace fq17_ := m_45_ok fq17_
    obtain rfl := Option.some.inj hq18_
    exact con_pc (op := true) (I := [64, 90, 101]) (sp := chkFigures_sp) 3000 (bT 1 (bF 4 (bT 2 (bF 5 (bT 6 []))))) [iD r14, iD r15] [c_T, c_n b1_, c_n b1_, c_n b1_, c_n b1_, c_d b3_, c_T, c_n bq1_, c_n bq1_, c_n bq1_, c_n bq1_, c_n bq7_, c_T, c_d bq13_, c_d bq13_, c_d bq13_, c_d bq13_, c_T, c_le 3, c_le 2] [k_c fq15_, k_c fq17_] (by kernel_rfl)
  have hq14_ := (if_neg bq13_).symm.trans hq8_
  by_cases bq19_ : ph > (4196 : Int)
  · have hq20_ := (if_pos bq19_).symm.trans hq14_
    obtain ⟨r16, fq21_, hq22_⟩ := pullD_elim hq20_
    replace fq21_ := m_91_ok fq21_
    obtain ⟨r17, fq23_, hq24_⟩ := pullD_elim hq22_
    replace fq23_ := m_45_ok fq23_
    obtain rfl := Option.some.inj hq24_
    exact con_pc (op := true) (I := [64, 90, 101]) (sp := chkFigures_sp) 3000 (bT 1 (bF 4 (bT 2 (bF 5 (bT 1 (bF 4 (bT 1 []))))))) [iD r16, iD r17] [c_T, c_n b1_, c_n b1_, c_n b1_, c_n b1_, c_d b3_, c_T, c_n bq1_, c_n bq1_, c_n bq1_, c_n bq1_, c_n bq7_, c_T, c_n bq13_, c_n bq13_, c_n bq13_, c_n bq13_, c_d bq19_, c_le 3, c_le 2] [k_c fq21_, k_c fq23_] (by kernel_rfl)
  have hq20_ := (if_neg bq19_).symm.trans hq14_
  obtain ⟨r18, fq25_, hq26_⟩ := pullD_elim hq20_
  replace fq25_ := m_91_ok fq25_
  obtain ⟨r19, fq27_, hq28_⟩ := pullD_elim hq26_
  replace fq27_ := m_45_ok fq27_
  obtain rfl := Option.some.inj hq28_
  exact con_pc (op := true) (I := [64, 90, 101]) (sp := chkFigures_sp) 3000 (bT 1 (bF 4 (bT 2 (bF 5 (bT 1 (bF 6 [])))))) [iD r18, iD r19] [c_T, c_n b1_, c_n b1_, c_n b1_, c_n b1_, c_d b3_, c_T, c_n bq1_, c_n bq1_, c_n bq1_, c_n bq1_, c_n bq7_, c_T, c_n bq13_, c_n bq13_, c_n bq13_, c_n bq13_, c_n bq19_, c_F, c_le 3, c_le 2] [k_c fq25_, k_c fq27_] (by kernel_rfl)
theorem chkFigures_M_s2_ok (ga pl ph tl th nl nh ul uh : Int)  (b1_ : ¬ (ga < (0 : Int))) (b3_ : ¬ (ga > (63 : Int))) (b5_ : tl < (0 : Int)) {r : D} (h : chkFigures_M_s2 ga pl ph tl th nl nh ul uh = some r) : Con 64 [(shNL7_0 ga pl ph tl th nl nh ul uh)] r := by
  unfold chkFigures_M_s2 at h
  by_cases bq1_ : pl < (1 : Int)
  · have hq2_ := (if_pos bq1_).symm.trans h
    obtain ⟨r20, fq3_, hq4_⟩ := pullD_elim hq2_
    replace fq3_ := m_91_ok fq3_
    obtain ⟨r21, fq5_, hq6_⟩ := pullD_elim hq4_
    replace fq5_ := m_45_ok fq5_
    obtain rfl := Option.some.inj hq6_
    exact con_pc (op := true) (I := [64, 90, 101]) (sp := chkFigures_sp) 3000 (bT 1 (bF 5 (bT 12 []))) [iD r20, iD r21] [c_T, c_n b1_, c_n b1_, c_n b1_, c_n b1_, c_n b3_, c_T, c_d b5_, c_d b5_, c_d b5_, c_d b5_, c_T, c_T, c_d bq1_, c_d bq1_, c_d bq1_, c_d bq1_, c_T, c_le 3, c_le 2] [k_c fq3_, k_c fq5_] (by kernel_rfl)
  have hq2_ := (if_neg bq1_).symm.trans h
  by_cases bq7_ : pl > (4196 : Int)
  · have hq8_ := (if_pos bq7_).symm.trans hq2_
    obtain ⟨r22, fq9_, hq10_⟩ := pullD_elim hq8_
    replace fq9_ := m_91_ok fq9_
    obtain ⟨r23, fq11_, hq12_⟩ := pullD_elim hq10_
    replace fq11_ := m_45_ok fq11_
    obtain rfl := Option.some.inj hq12_
    exact con_pc (op := true) (I := [64, 90, 101]) (sp := chkFigures_sp) 3000 (bT 1 (bF 5 (bT 7 (bF 4 (bT 1 []))))) [iD r22, iD r23] [c_T, c_n b1_, c_n b1_, c_n b1_, c_n b1_, c_n b3_, c_T, c_d b5_, c_d b5_, c_d b5_, c_d b5_, c_T, c_T, c_n bq1_, c_n bq1_, c_n bq1_, c_n bq1_, c_d bq7_, c_le 3, c_le 2] [k_c fq9_, k_c fq11_] (by kernel_rfl)
  have hq8_ := (if_neg bq7_).symm.trans hq2_
  by_cases bq13_ : ph < (1 : Int)
  · have hq14_ := (if_pos bq13_).symm.trans hq8_
    obtain ⟨r24, fq15_, hq16_⟩ := pullD_elim hq14_
    replace fq15_ := m_91_ok fq15_
    obtain ⟨r25, fq17_, hq18_⟩ := pullD_elim hq16_
    replace fq17_ := m_45_ok fq17_
    obtain rfl := Option.some.inj hq18_
    exact con_pc (op := true) (I := [64, 90, 101]) (sp := chkFigures_sp) 3000 (bT 1 (bF 5 (bT 7 (bF 5 (bT 6 []))))) [iD r24, iD r25] [c_T, c_n b1_, c_n b1_, c_n b1_, c_n b1_, c_n b3_, c_T, c_d b5_, c_d b5_, c_d b5_, c_d b5_, c_T, c_T, c_n bq1_, c_n bq1_, c_n bq1_, c_n bq1_, c_n bq7_, c_T, c_d bq13_, c_d bq13_, c_d bq13_, c_d bq13_, c_T, c_le 3, c_le 2] [k_c fq15_, k_c fq17_] (by kernel_rfl)
  have hq14_ := (if_neg bq13_).symm.trans hq8_
  by_cases bq19_ : ph > (4196 : Int)
  · have hq20_ := (if_pos bq19_).symm.trans hq14_
    obtain ⟨r26, fq21_, hq22_⟩ := pullD_elim hq20_
    replace fq21_ := m_91_ok fq21_
    obtain ⟨r27, fq23_, hq24_⟩ := pullD_elim hq22_
    replace fq23_ := m_45_ok fq23_
    obtain rfl := Option.some.inj hq24_
    exact con_pc (op := true) (I := [64, 90, 101]) (sp := chkFigures_sp) 3000 (bT 1 (bF 5 (bT 7 (bF 5 (bT 1 (bF 4 (bT 1 []))))))) [iD r26, iD r27] [c_T, c_n b1_, c_n b1_, c_n b1_, c_n b1_, c_n b3_, c_T, c_d b5_, c_d b5_, c_d b5_, c_d b5_, c_T, c_T, c_n bq1_, c_n bq1_, c_n bq1_, c_n bq1_, c_n bq7_, c_T, c_n bq13_, c_n bq13_, c_n bq13_, c_n bq13_, c_d bq19_, c_le 3, c_le 2] [k_c fq21_, k_c fq23_] (by kernel_rfl)
  have hq20_ := (if_neg bq19_).symm.trans hq14_
  obtain ⟨r28, fq25_, hq26_⟩ := pullD_elim hq20_
  replace fq25_ := m_91_ok fq25_
  obtain ⟨r29, fq27_, hq28_⟩ := pullD_elim hq26_
  replace fq27_ := m_45_ok fq27_
  obtain rfl := Option.some.inj hq28_
  exact con_pc (op := true) (I := [64, 90, 101]) (sp := chkFigures_sp) 3000 (bT 1 (bF 5 (bT 7 (bF 5 (bT 1 (bF 6 [])))))) [iD r28, iD r29] [c_T, c_n b1_, c_n b1_, c_n b1_, c_n b1_, c_n b3_, c_T, c_d b5_, c_d b5_, c_d b5_, c_d b5_, c_T, c_T, c_n bq1_, c_n bq1_, c_n bq1_, c_n bq1_, c_n bq7_, c_T, c_n bq13_, c_n bq13_, c_n bq13_, c_n bq13_, c_n bq19_, c_F, c_le 3, c_le 2] [k_c fq25_, k_c fq27_] (by kernel_rfl)
theorem chkFigures_M_s3_ok (ga pl ph tl th nl nh ul uh : Int)  (b1_ : ¬ (ga < (0 : Int))) (b3_ : ¬ (ga > (63 : Int))) (b5_ : ¬ (tl < (0 : Int))) (b7_ : tl > (63 : Int)) {r : D} (h : chkFigures_M_s3 ga pl ph tl th nl nh ul uh = some r) : Con 64 [(shNL7_0 ga pl ph tl th nl nh ul uh)] r := by
  unfold chkFigures_M_s3 at h
  by_cases bq1_ : pl < (1 : Int)
  · have hq2_ := (if_pos bq1_).symm.trans h
    obtain ⟨r30, fq3_, hq4_⟩ := pullD_elim hq2_
    replace fq3_ := m_91_ok fq3_
    obtain ⟨r31, fq5_, hq6_⟩ := pullD_elim hq4_
    replace fq5_ := m_45_ok fq5_
    obtain rfl := Option.some.inj hq6_
    exact con_pc (op := true) (I := [64, 90, 101]) (sp := chkFigures_sp) 3000 (bT 1 (bF 5 (bT 1 (bF 4 (bT 7 []))))) [iD r30, iD r31] [c_T, c_n b1_, c_n b1_, c_n b1_, c_n b1_, c_n b3_, c_T, c_n b5_, c_n b5_, c_n b5_, c_n b5_, c_d b7_, c_T, c_d bq1_, c_d bq1_, c_d bq1_, c_d bq1_, c_T, c_le 3, c_le 2] [k_c fq3_, k_c fq5_] (by kernel_rfl)
  have hq2_ := (if_neg bq1_).symm.trans h
  by_cases bq7_ : pl > (4196 : Int)
  · have hq8_ := (if_pos bq7_).symm.trans hq2_
    obtain ⟨r32, fq9_, hq10_⟩ := pullD_elim hq8_
    replace fq9_ := m_91_ok fq9_
    obtain ⟨r33, fq11_, hq12_⟩ := pullD_elim hq10_
    replace fq11_ := m_45_ok fq11_
    obtain rfl := Option.some.inj hq12_
    exact con_pc (op := true) (I := [64, 90, 101]) (sp := chkFigures_sp) 3000 (bT 1 (bF 5 (bT 1 (bF 4 (bT 2 (bF 4 (bT 1 []))))))) [iD r32, iD r33] [c_T, c_n b1_, c_n b1_, c_n b1_, c_n b1_, c_n b3_, c_T, c_n b5_, c_n b5_, c_n b5_, c_n b5_, c_d b7_, c_T, c_n bq1_, c_n bq1_, c_n bq1_, c_n bq1_, c_d bq7_, c_le 3, c_le 2] [k_c fq9_, k_c fq11_] (by kernel_rfl)
  have hq8_ := (if_neg bq7_).symm.trans hq2_
  by_cases bq13_ : ph < (1 : Int)
  · have hq14_ := (if_pos bq13_).symm.trans hq8_
    obtain ⟨r34, fq15_, hq16_⟩ := pullD_elim hq14_
    replace fq15_ := m_91_ok fq15_
    obtain ⟨r35, fq17_, hq18_⟩ := pullD_elim hq16_
    replace fq17_ := m_45_ok fq17_
    obtain rfl := Option.some.inj hq18_
    exact con_pc (op := true) (I := [64, 90, 101]) (sp := chkFigures_sp) 3000 (bT 1 (bF 5 (bT 1 (bF 4 (bT 2 (bF 5 (bT 6 []))))))) [iD r34, iD r35] [c_T, c_n b1_, c_n b1_, c_n b1_, c_n b1_, c_n b3_, c_T, c_n b5_, c_n b5_, c_n b5_, c_n b5_, c_d b7_, c_T, c_n bq1_, c_n bq1_, c_n bq1_, c_n bq1_, c_n bq7_, c_T, c_d bq13_, c_d bq13_, c_d bq13_, c_d bq13_, c_T, c_le 3, c_le 2] [k_c fq15_, k_c fq17_] (by kernel_rfl)
  have hq14_ := (if_neg bq13_).symm.trans hq8_
  by_cases bq19_ : ph > (4196 : Int)
  · have hq20_ := (if_pos bq19_).symm.trans hq14_
    obtain ⟨r36, fq21_, hq22_⟩ := pullD_elim hq20_
    replace fq21_ := m_91_ok fq21_
    obtain ⟨r37, fq23_, hq24_⟩ := pullD_elim hq22_
    replace fq23_ := m_45_ok fq23_
    obtain rfl := Option.some.inj hq24_
    exact con_pc (op := true) (I := [64, 90, 101]) (sp := chkFigures_sp) 3000 (bT 1 (bF 5 (bT 1 (bF 4 (bT 2 (bF 5 (bT 1 (bF 4 (bT 1 []))))))))) [iD r36, iD r37] [c_T, c_n b1_, c_n b1_, c_n b1_, c_n b1_, c_n b3_, c_T, c_n b5_, c_n b5_, c_n b5_, c_n b5_, c_d b7_, c_T, c_n bq1_, c_n bq1_, c_n bq1_, c_n bq1_, c_n bq7_, c_T, c_n bq13_, c_n bq13_, c_n bq13_, c_n bq13_, c_d bq19_, c_le 3, c_le 2] [k_c fq21_, k_c fq23_] (by kernel_rfl)
  have hq20_ := (if_neg bq19_).symm.trans hq14_
  obtain ⟨r38, fq25_, hq26_⟩ := pullD_elim hq20_
  replace fq25_ := m_91_ok fq25_
  obtain ⟨r39, fq27_, hq28_⟩ := pullD_elim hq26_
  replace fq27_ := m_45_ok fq27_
  obtain rfl := Option.some.inj hq28_
  exact con_pc (op := true) (I := [64, 90, 101]) (sp := chkFigures_sp) 3000 (bT 1 (bF 5 (bT 1 (bF 4 (bT 2 (bF 5 (bT 1 (bF 6 [])))))))) [iD r38, iD r39] [c_T, c_n b1_, c_n b1_, c_n b1_, c_n b1_, c_n b3_, c_T, c_n b5_, c_n b5_, c_n b5_, c_n b5_, c_d b7_, c_T, c_n bq1_, c_n bq1_, c_n bq1_, c_n bq1_, c_n bq7_, c_T, c_n bq13_, c_n bq13_, c_n bq13_, c_n bq13_, c_n bq19_, c_F, c_le 3, c_le 2] [k_c fq25_, k_c fq27_] (by kernel_rfl)
theorem chkFigures_M_s4_ok (ga pl ph tl th nl nh ul uh : Int)  (b1_ : ¬ (ga < (0 : Int))) (b3_ : ¬ (ga > (63 : Int))) (b5_ : ¬ (tl < (0 : Int))) (b7_ : ¬ (tl > (63 : Int))) (b9_ : th < (0 : Int)) {r : D} (h : chkFigures_M_s4 ga pl ph tl th nl nh ul uh = some r) : Con 64 [(shNL7_0 ga pl ph tl th nl nh ul uh)] r := by
  unfold chkFigures_M_s4 at h
  by_cases bq1_ : pl < (1 : Int)
  · have hq2_ := (if_pos bq1_).symm.trans h
    obtain ⟨r40, fq3_, hq4_⟩ := pullD_elim hq2_
    replace fq3_ := m_91_ok fq3_
    obtain ⟨r41, fq5_, hq6_⟩ := pullD_elim hq4_
    replace fq5_ := m_45_ok fq5_
    obtain rfl := Option.some.inj hq6_
    exact con_pc (op := true) (I := [64, 90, 101]) (sp := chkFigures_sp) 3000 (bT 1 (bF 5 (bT 1 (bF 5 (bT 12 []))))) [iD r40, iD r41] [c_T, c_n b1_, c_n b1_, c_n b1_, c_n b1_, c_n b3_, c_T, c_n b5_, c_n b5_, c_n b5_, c_n b5_, c_n b7_, c_T, c_d b9_, c_d b9_, c_d b9_, c_d b9_, c_T, c_T, c_d bq1_, c_d bq1_, c_d bq1_, c_d bq1_, c_T, c_le 3, c_le 2] [k_c fq3_, k_c fq5_] (by kernel_rfl)
  have hq2_ := (if_neg bq1_).symm.trans h
  by_cases bq7_ : pl > (4196 : Int)
  · have hq8_ := (if_pos bq7_).symm.trans hq2_
    obtain ⟨r42, fq9_, hq10_⟩ := pullD_elim hq8_
    replace fq9_ := m_91_ok fq9_
    obtain ⟨r43, fq11_, hq12_⟩ := pullD_elim hq10_
    replace fq11_ := m_45_ok fq11_
    obtain rfl := Option.some.inj hq12_
    exact con_pc (op := true) (I := [64, 90, 101]) (sp := chkFigures_sp) 3000 (bT 1 (bF 5 (bT 1 (bF 5 (bT 7 (bF 4 (bT 1 []))))))) [iD r42, iD r43] [c_T, c_n b1_, c_n b1_, c_n b1_, c_n b1_, c_n b3_, c_T, c_n b5_, c_n b5_, c_n b5_, c_n b5_, c_n b7_, c_T, c_d b9_, c_d b9_, c_d b9_, c_d b9_, c_T, c_T, c_n bq1_, c_n bq1_, c_n bq1_, c_n bq1_, c_d bq7_, c_le 3, c_le 2] [k_c fq9_, k_c fq11_] (by kernel_rfl)
  have hq8_ := (if_neg bq7_).symm.trans hq2_
  by_cases bq13_ : ph < (1 : Int)
  · have hq14_ := (if_pos bq13_).symm.trans hq8_
    obtain ⟨r44, fq15_, hq16_⟩ := pullD_elim hq14_
    replace fq15_ := m_91_ok fq15_
    obtain ⟨r45, fq17_, hq18_⟩ := pullD_elim hq16_
    replace fq17_ := m_45_ok fq17_
    obtain rfl := Option.some.inj hq18_
    exact con_pc (op := true) (I := [64, 90, 101]) (sp := chkFigures_sp) 3000 (bT 1 (bF 5 (bT 1 (bF 5 (bT 7 (bF 5 (bT 6 []))))))) [iD r44, iD r45] [c_T, c_n b1_, c_n b1_, c_n b1_, c_n b1_, c_n b3_, c_T, c_n b5_, c_n b5_, c_n b5_, c_n b5_, c_n b7_, c_T, c_d b9_, c_d b9_, c_d b9_, c_d b9_, c_T, c_T, c_n bq1_, c_n bq1_, c_n bq1_, c_n bq1_, c_n bq7_, c_T, c_d bq13_, c_d bq13_, c_d bq13_, c_d bq13_, c_T, c_le 3, c_le 2] [k_c fq15_, k_c fq17_] (by kernel_rfl)
  have hq14_ := (if_neg bq13_).symm.trans hq8_
  by_cases bq19_ : ph > (4196 : Int)
  · have hq20_ := (if_pos bq19_).symm.trans hq14_
    obtain ⟨r46, fq21_, hq22_⟩ := pullD_elim hq20_
    replace fq21_ := m_91_ok fq21_
    obtain ⟨r47, fq23_, hq24_⟩ := pullD_elim hq22_
    replace fq23_ := m_45_ok fq23_
    obtain rfl := Option.some.inj hq24_
    exact con_pc (op := true) (I := [64, 90, 101]) (sp := chkFigures_sp) 3000 (bT 1 (bF 5 (bT 1 (bF 5 (bT 7 (bF 5 (bT 1 (bF 4 (bT 1 []))))))))) [iD r46, iD r47] [c_T, c_n b1_, c_n b1_, c_n b1_, c_n b1_, c_n b3_, c_T, c_n b5_, c_n b5_, c_n b5_, c_n b5_, c_n b7_, c_T, c_d b9_, c_d b9_, c_d b9_, c_d b9_, c_T, c_T, c_n bq1_, c_n bq1_, c_n bq1_, c_n bq1_, c_n bq7_, c_T, c_n bq13_, c_n bq13_, c_n bq13_, c_n bq13_, c_d bq19_, c_le 3, c_le 2] [k_c fq21_, k_c fq23_] (by kernel_rfl)
  have hq20_ := (if_neg bq19_).symm.trans hq14_
  obtain ⟨r48, fq25_, hq26_⟩ := pullD_elim hq20_
  replace fq25_ := m_91_ok fq25_
  obtain ⟨r49, fq27_, hq28_⟩ := pullD_elim hq26_
  replace fq27_ := m_45_ok fq27_
  obtain rfl := Option.some.inj hq28_
  exact con_pc (op := true) (I := [64, 90, 101]) (sp := chkFigures_sp) 3000 (bT 1 (bF 5 (bT 1 (bF 5 (bT 7 (bF 5 (bT 1 (bF 6 [])))))))) [iD r48, iD r49] [c_T, c_n b1_, c_n b1_, c_n b1_, c_n b1_, c_n b3_, c_T, c_n b5_, c_n b5_, c_n b5_, c_n b5_, c_n b7_, c_T, c_d b9_, c_d b9_, c_d b9_, c_d b9_, c_T, c_T, c_n bq1_, c_n bq1_, c_n bq1_, c_n bq1_, c_n bq7_, c_T, c_n bq13_, c_n bq13_, c_n bq13_, c_n bq13_, c_n bq19_, c_F, c_le 3, c_le 2] [k_c fq25_, k_c fq27_] (by kernel_rfl)
theorem chkFigures_M_s5_ok (ga pl ph tl th nl nh ul uh : Int)  (b1_ : ¬ (ga < (0 : Int))) (b3_ : ¬ (ga > (63 : Int))) (b5_ : ¬ (tl < (0 : Int))) (b7_ : ¬ (tl > (63 : Int))) (b9_ : ¬ (th < (0 : Int))) (b11_ : th > (63 : Int)) {r : D} (h : chkFigures_M_s5 ga pl ph tl th nl nh ul uh = some r) : Con 64 [(shNL7_0 ga pl ph tl th nl nh ul uh)] r := by
  unfold chkFigures_M_s5 at h
  by_cases bq1_ : pl < (1 : Int)
  · have hq2_ := (if_pos bq1_).symm.trans h
    obtain ⟨r50, fq3_, hq4_⟩ := pullD_elim hq2_
    replace fq3_ := m_91_ok fq3_
    obtain ⟨r51, fq5_, hq6_⟩ := pullD_elim hq4_
    replace fq5_ := m_45_ok fq5_
    obtain rfl := Option.some.inj hq6_
    exact con_pc (op := true) (I := [64, 90, 101]) (sp := chkFigures_sp) 3000 (bT 1 (bF 5 (bT 1 (bF 5 (bT 1 (bF 4 (bT 7 []))))))) [iD r50, iD r51] [c_T, c_n b1_, c_n b1_, c_n b1_, c_n b1_, c_n b3_, c_T, c_n b5_, c_n b5_, c_n b5_, c_n b5_, c_n b7_, c_T, c_n b9_, c_n b9_, c_n b9_, c_n b9_, c_d b11_, c_T, c_d bq1_, c_d bq1_, c_d bq1_, c_d bq1_, c_T, c_le 3, c_le 2] [k_c fq3_, k_c fq5_] (by kernel_rfl)
  have hq2_ := (if_neg bq1_).symm.trans h
  by_cases bq7_ : pl > (4196 : Int)
  · have hq8_ := (if_pos bq7_).symm.trans hq2_
    obtain ⟨r52, fq9_, hq10_⟩ := pullD_elim hq8_
    replace fq9_ := m_91_ok fq9_
    obtain ⟨r53, fq11_, hq12_⟩ := pullD_elim hq10_
    replace fq11_ := m_45_ok fq11_
    obtain rfl := Option.some.inj hq12_
    exact con_pc (op := true) (I := [64, 90, 101]) (sp := chkFigures_sp) 3000 (bT 1 (bF 5 (bT 1 (bF 5 (bT 1 (bF 4 (bT 2 (bF 4 (bT 1 []))))))))) [iD r52, iD r53] [c_T, c_n b1_, c_n b1_, c_n b1_, c_n b1_, c_n b3_, c_T, c_n b5_, c_n b5_, c_n b5_, c_n b5_, c_n b7_, c_T, c_n b9_, c_n b9_, c_n b9_, c_n b9_, c_d b11_, c_T, c_n bq1_, c_n bq1_, c_n bq1_, c_n bq1_, c_d bq7_, c_le 3, c_le 2] [k_c fq9_, k_c fq11_] (by kernel_rfl)
  have hq8_ := (if_neg bq7_).symm.trans hq2_
  by_cases bq13_ : ph < (1 : Int)
  · have hq14_ := (if_pos bq13_).symm.trans hq8_
    obtain ⟨r54, fq15_, hq16_⟩ := pullD_elim hq14_
    replace fq15_ := m_91_ok fq15_
    obtain ⟨r55, fq17_, hq18_⟩ := pullD_elim hq16_
    replace fq17_ := m_45_ok fq17_
    obtain rfl := Option.some.inj hq18_
    exact con_pc (op := true) (I := [64, 90, 101]) (sp := chkFigures_sp) 3000 (bT 1 (bF 5 (bT 1 (bF 5 (bT 1 (bF 4 (bT 2 (bF 5 (bT 6 []))))))))) [iD r54, iD r55] [c_T, c_n b1_, c_n b1_, c_n b1_, c_n b1_, c_n b3_, c_T, c_n b5_, c_n b5_, c_n b5_, c_n b5_, c_n b7_, c_T, c_n b9_, c_n b9_, c_n b9_, c_n b9_, c_d b11_, c_T, c_n bq1_, c_n bq1_, c_n bq1_, c_n bq1_, c_n bq7_, c_T, c_d bq13_, c_d bq13_, c_d bq13_, c_d bq13_, c_T, c_le 3, c_le 2] [k_c fq15_, k_c fq17_] (by kernel_rfl)
  have hq14_ := (if_neg bq13_).symm.trans hq8_
  by_cases bq19_ : ph > (4196 : Int)
  · have hq20_ := (if_pos bq19_).symm.trans hq14_
    obtain ⟨r56, fq21_, hq22_⟩ := pullD_elim hq20_
    replace fq21_ := m_91_ok fq21_
    obtain ⟨r57, fq23_, hq24_⟩ := pullD_elim hq22_
    replace fq23_ := m_45_ok fq23_
    obtain rfl := Option.some.inj hq24_
    exact con_pc (op := true) (I := [64, 90, 101]) (sp := chkFigures_sp) 3000 (bT 1 (bF 5 (bT 1 (bF 5 (bT 1 (bF 4 (bT 2 (bF 5 (bT 1 (bF 4 (bT 1 []))))))))))) [iD r56, iD r57] [c_T, c_n b1_, c_n b1_, c_n b1_, c_n b1_, c_n b3_, c_T, c_n b5_, c_n b5_, c_n b5_, c_n b5_, c_n b7_, c_T, c_n b9_, c_n b9_, c_n b9_, c_n b9_, c_d b11_, c_T, c_n bq1_, c_n bq1_, c_n bq1_, c_n bq1_, c_n bq7_, c_T, c_n bq13_, c_n bq13_, c_n bq13_, c_n bq13_, c_d bq19_, c_le 3, c_le 2] [k_c fq21_, k_c fq23_] (by kernel_rfl)
  have hq20_ := (if_neg bq19_).symm.trans hq14_
  obtain ⟨r58, fq25_, hq26_⟩ := pullD_elim hq20_
  replace fq25_ := m_91_ok fq25_
  obtain ⟨r59, fq27_, hq28_⟩ := pullD_elim hq26_
  replace fq27_ := m_45_ok fq27_
  obtain rfl := Option.some.inj hq28_
  exact con_pc (op := true) (I := [64, 90, 101]) (sp := chkFigures_sp) 3000 (bT 1 (bF 5 (bT 1 (bF 5 (bT 1 (bF 4 (bT 2 (bF 5 (bT 1 (bF 6 [])))))))))) [iD r58, iD r59] [c_T, c_n b1_, c_n b1_, c_n b1_, c_n b1_, c_n b3_, c_T, c_n b5_, c_n b5_, c_n b5_, c_n b5_, c_n b7_, c_T, c_n b9_, c_n b9_, c_n b9_, c_n b9_, c_d b11_, c_T, c_n bq1_, c_n bq1_, c_n bq1_, c_n bq1_, c_n bq7_, c_T, c_n bq13_, c_n bq13_, c_n bq13_, c_n bq13_, c_n bq19_, c_F, c_le 3, c_le 2] [k_c fq25_, k_c fq27_] (by kernel_rfl)
theorem chkFigures_M_s6_ok (ga pl ph tl th nl nh ul uh : Int)  (b1_ : ¬ (ga < (0 : Int))) (b3_ : ¬ (ga > (63 : Int))) (b5_ : ¬ (tl < (0 : Int))) (b7_ : ¬ (tl > (63 : Int))) (b9_ : ¬ (th < (0 : Int))) (b11_ : ¬ (th > (63 : Int))) (b13_ : nl < (0 : Int)) {r : D} (h : chkFigures_M_s6 ga pl ph tl th nl nh ul uh = some r) : Con 64 [(shNL7_0 ga pl ph tl th nl nh ul uh)] r := by
  unfold chkFigures_M_s6 at h
  by_cases bq1_ : pl < (1 : Int)
  · have hq2_ := (if_pos bq1_).symm.trans h
    obtain ⟨r60, fq3_, hq4_⟩ := pullD_elim hq2_
    replace fq3_ := m_91_ok fq3_
    obtain ⟨r61, fq5_, hq6_⟩ := pullD_elim hq4_
    replace fq5_ := m_45_ok fq5_
    obtain rfl := Option.some.inj hq6_
    exact con_pc (op := true) (I := [64, 90, 101]) (sp := chkFigures_sp) 3000 (bT 1 (bF 5 (bT 1 (bF 5 (bT 1 (bF 5 (bT 12 []))))))) [iD r60, iD r61] [c_T, c_n b1_, c_n b1_, c_n b1_, c_n b1_, c_n b3_, c_T, c_n b5_, c_n b5_, c_n b5_, c_n b5_, c_n b7_, c_T, c_n b9_, c_n b9_, c_n b9_, c_n b9_, c_n b11_, c_T, c_d b13_, c_d b13_, c_d b13_, c_d b13_, c_T, c_T, c_d bq1_, c_d bq1_, c_d bq1_, c_d bq1_, c_T, c_le 3, c_le 2] [k_c fq3_, k_c fq5_] (by kernel_rfl)
  have hq2_ := (if_neg bq1_).symm.trans h
  by_cases bq7_ : pl > (4196 : Int)
  · have hq8_ := (if_pos bq7_).symm.trans hq2_
    obtain ⟨r62, fq9_, hq10_⟩ := pullD_elim hq8_
    replace fq9_ := m_91_ok fq9_
    obtain ⟨r63, fq11_, hq12_⟩ := pullD_elim hq10_
    replace fq11_ := m_45_ok fq11_
    obtain rfl := Option.some.inj hq12_
    exact con_pc (op := true) (I := [64, 90, 101]) (sp := chkFigures_sp) 3000 (bT 1 (bF 5 (bT 1 (bF 5 (bT 1 (bF 5 (bT 7 (bF 4 (bT 1 []))))))))) [iD r62, iD r63] [c_T, c_n b1_, c_n b1_, c_n b1_, c_n b1_, c_n b3_, c_T, c_n b5_, c_n b5_, c_n b5_, c_n b5_, c_n b7_, c_T, c_n b9_, c_n b9_, c_n b9_, c_n b9_, c_n b11_, c_T, c_d b13_, c_d b13_, c_d b13_, c_d b13_, c_T, c_T, c_n bq1_, c_n bq1_, c_n bq1_, c_n bq1_, c_d bq7_, c_le 3, c_le 2] [k_c fq9_, k_c fq11_] (by kernel_rfl)
  have hq8_ := (if_neg bq7_).symm.trans hq2_
  by_cases bq13_ : ph < (1 : Int)
  · have hq14_ := (if_pos bq13_).symm.trans hq8_
    obtain ⟨r64, fq15_, hq16_⟩ := pullD_elim hq14_
    replace fq15_ := m_91_ok fq15_
    obtain ⟨r65, fq17_, hq18_⟩ := pullD_elim hq16_
    replace fq17_ := m_45_ok fq17_
    obtain rfl := Option.some.inj hq18_
    exact con_pc (op := true) (I := [64, 90, 101]) (sp := chkFigures_sp) 3000 (bT 1 (bF 5 (bT 1 (bF 5 (bT 1 (bF 5 (bT 7 (bF 5 (bT 6 []))))))))) [iD r64, iD r65] [c_T, c_n b1_, c_n b1_, c_n b1_, c_n b1_, c_n b3_, c_T, c_n b5_, c_n b5_, c_n b5_, c_n b5_, c_n b7_, c_T, c_n b9_, c_n b9_, c_n b9_, c_n b9_, c_n b11_, c_T, c_d b13_, c_d b13_, c_d b13_, c_d b13_, c_T, c_T, c_n bq1_, c_n bq1_, c_n bq1_, c_n bq1_, c_n bq7_, c_T, c_d bq13_, c_d bq13_, c_d bq13_, c_d bq13_, c_T, c_le 3, c_le 2] [k_c fq15_, k_c fq17_] (by kernel_rfl)
  have hq14_ := (if_neg bq13_).symm.trans hq8_
  by_cases bq19_ : ph > (4196 : Int)
  · have hq20_ := (if_pos bq19_).symm.trans hq14_
    obtain ⟨r66, fq21_, hq22_⟩ := pullD_elim hq20_
    replace fq21_ := m_91_ok fq21_
    obtain ⟨r67, fq23_, hq24_⟩ := pullD_elim hq22_
    replace fq23_ := m_45_ok fq23_
    obtain rfl := Option.some.inj hq24_
    exact con_pc (op := true) (I := [64, 90, 101]) (sp := chkFigures_sp) 3000 (bT 1 (bF 5 (bT 1 (bF 5 (bT 1 (bF 5 (bT 7 (bF 5 (bT 1 (bF 4 (bT 1 []))))))))))) [iD r66, iD r67] [c_T, c_n b1_, c_n b1_, c_n b1_, c_n b1_, c_n b3_, c_T, c_n b5_, c_n b5_, c_n b5_, c_n b5_, c_n b7_, c_T, c_n b9_, c_n b9_, c_n b9_, c_n b9_, c_n b11_, c_T, c_d b13_, c_d b13_, c_d b13_, c_d b13_, c_T, c_T, c_n bq1_, c_n bq1_, c_n bq1_, c_n bq1_, c_n bq7_, c_T, c_n bq13_, c_n bq13_, c_n bq13_, c_n bq13_, c_d bq19_, c_le 3, c_le 2] [k_c fq21_, k_c fq23_] (by kernel_rfl)
  have hq20_ := (if_neg bq19_).symm.trans hq14_
  obtain ⟨r68, fq25_, hq26_⟩ := pullD_elim hq20_
  replace fq25_ := m_91_ok fq25_
  obtain ⟨r69, fq27_, hq28_⟩ := pullD_elim hq26_
  replace fq27_ := m_45_ok fq27_
  obtain rfl := Option.some.inj hq28_
  exact con_pc (op := true) (I := [64, 90, 101]) (sp := chkFigures_sp) 3000 (bT 1 (bF 5 (bT 1 (bF 5 (bT 1 (bF 5 (bT 7 (bF 5 (bT 1 (bF 6 [])))))))))) [iD r68, iD r69] [c_T, c_n b1_, c_n b1_, c_n b1_, c_n b1_, c_n b3_, c_T, c_n b5_, c_n b5_, c_n b5_, c_n b5_, c_n b7_, c_T, c_n b9_, c_n b9_, c_n b9_, c_n b9_, c_n b11_, c_T, c_d b13_, c_d b13_, c_d b13_, c_d b13_, c_T, c_T, c_n bq1_, c_n bq1_, c_n bq1_, c_n bq1_, c_n bq7_, c_T, c_n bq13_, c_n bq13_, c_n bq13_, c_n bq13_, c_n bq19_, c_F, c_le 3, c_le 2] [k_c fq25_, k_c fq27_] (by kernel_rfl)
theorem chkFigures_M_s7_ok (ga pl ph tl th nl nh ul uh : Int)  (b1_ : ¬ (ga < (0 : Int))) (b3_ : ¬ (ga > (63 : Int))) (b5_ : ¬ (tl < (0 : Int))) (b7_ : ¬ (tl > (63 : Int))) (b9_ : ¬ (th < (0 : Int))) (b11_ : ¬ (th > (63 : Int))) (b13_ : ¬ (nl < (0 : Int))) (b15_ : nl > (63 : Int)) {r : D} (h : chkFigures_M_s7 ga pl ph tl th nl nh ul uh = some r) : Con 64 [(shNL7_0 ga pl ph tl th nl nh ul uh)] r := by
  unfold chkFigures_M_s7 at h
  by_cases bq1_ : pl < (1 : Int)
  · have hq2_ := (if_pos bq1_).symm.trans h
    obtain ⟨r70, fq3_, hq4_⟩ := pullD_elim hq2_
    replace fq3_ := m_91_ok fq3_
    obtain ⟨r71, fq5_, hq6_⟩ := pullD_elim hq4_
    replace fq5_ := m_45_ok fq5_
    obtain rfl := Option.some.inj hq6_
    exact con_pc (op := true) (I := [64, 90, 101]) (sp := chkFigures_sp) 3000 (bT 1 (bF 5 (bT 1 (bF 5 (bT 1 (bF 5 (bT 1 (bF 4 (bT 7 []))))))))) [iD r70, iD r71] [c_T, c_n b1_, c_n b1_, c_n b1_, c_n b1_, c_n b3_, c_T, c_n b5_, c_n b5_, c_n b5_, c_n b5_, c_n b7_, c_T, c_n b9_, c_n b9_, c_n b9_, c_n b9_, c_n b11_, c_T, c_n b13_, c_n b13_, c_n b13_, c_n b13_, c_d b15_, c_T, c_d bq1_, c_d bq1_, c_d bq1_, c_d bq1_, c_T, c_le 3, c_le 2] [k_c fq3_, k_c fq5_] (by kernel_rfl)
  have hq2_ := (if_neg bq1_).symm.trans h
  by_cases bq7_ : pl > (4196 : Int)
  · have hq8_ := (if_pos bq7_).symm.trans hq2_
    obtain ⟨r72, fq9_, hq10_⟩ := pullD_elim hq8_
    replace fq9_ := m_91_ok fq9_
    obtain ⟨r73, fq11_, hq12_⟩ := pullD_elim hq10_
    replace fq11_ := m_45_ok fq11_
    obtain rfl := Option.some.inj hq12_
    exact con_pc (op := true) (I := [64, 90, 101]) (sp := chkFigures_sp) 3000 (bT 1 (bF 5 (bT 1 (bF 5 (bT 1 (bF 5 (bT 1 (bF 4 (bT 2 (bF 4 (bT 1 []))))))))))) [iD r72, iD r73] [c_T, c_n b1_, c_n b1_, c_n b1_, c_n b1_, c_n b3_, c_T, c_n b5_, c_n b5_, c_n b5_, c_n b5_, c_n b7_, c_T, c_n b9_, c_n b9_, c_n b9_, c_n b9_, c_n b11_, c_T, c_n b13_, c_n b13_, c_n b13_, c_n b13_, c_d b15_, c_T, c_n bq1_, c_n bq1_, c_n bq1_, c_n bq1_, c_d bq7_, c_le 3, c_le 2] [k_c fq9_, k_c fq11_] (by kernel_rfl)
  have hq8_ := (if_neg bq7_).symm.trans hq2_
  by_cases bq13_ : ph < (1 : Int)
  · have hq14_ := (if_pos bq13_).symm.trans hq8_
    obtain ⟨r74, fq15_, hq16_⟩ := pullD_elim hq14_
    replace fq15_ := m_91_ok fq15_
    obtain ⟨r75, fq17_, hq18_⟩ := pullD_elim hq16_
    replace fq17_ := m_45_ok fq17_
    obtain rfl := Option.some.inj hq18_
    exact con_pc (op := true) (I := [64, 90, 101]) (sp := chkFigures_sp) 3000 (bT 1 (bF 5 (bT 1 (bF 5 (bT 1 (bF 5 (bT 1 (bF 4 (bT 2 (bF 5 (bT 6 []))))))))))) [iD r74, iD r75] [c_T, c_n b1_, c_n b1_, c_n b1_, c_n b1_, c_n b3_, c_T, c_n b5_, c_n b5_, c_n b5_, c_n b5_, c_n b7_, c_T, c_n b9_, c_n b9_, c_n b9_, c_n b9_, c_n b11_, c_T, c_n b13_, c_n b13_, c_n b13_, c_n b13_, c_d b15_, c_T, c_n bq1_, c_n bq1_, c_n bq1_, c_n bq1_, c_n bq7_, c_T, c_d bq13_, c_d bq13_, c_d bq13_, c_d bq13_, c_T, c_le 3, c_le 2] [k_c fq15_, k_c fq17_] (by kernel_rfl)
  have hq14_ := (if_neg bq13_).symm.trans hq8_
  by_cases bq19_ : ph > (4196 : Int)
  · have hq20_ := (if_pos bq19_).symm.trans hq14_
    obtain ⟨r76, fq21_, hq22_⟩ := pullD_elim hq20_
    replace fq21_ := m_91_ok fq21_
    obtain ⟨r77, fq23_, hq24_⟩ := pullD_elim hq22_
    replace fq23_ := m_45_ok fq23_
    obtain rfl := Option.some.inj hq24_
    exact con_pc (op := true) (I := [64, 90, 101]) (sp := chkFigures_sp) 3000 (bT 1 (bF 5 (bT 1 (bF 5 (bT 1 (bF 5 (bT 1 (bF 4 (bT 2 (bF 5 (bT 1 (bF 4 (bT 1 []))))))))))))) [iD r76, iD r77] [c_T, c_n b1_, c_n b1_, c_n b1_, c_n b1_, c_n b3_, c_T, c_n b5_, c_n b5_, c_n b5_, c_n b5_, c_n b7_, c_T, c_n b9_, c_n b9_, c_n b9_, c_n b9_, c_n b11_, c_T, c_n b13_, c_n b13_, c_n b13_, c_n b13_, c_d b15_, c_T, c_n bq1_, c_n bq1_, c_n bq1_, c_n bq1_, c_n bq7_, c_T, c_n bq13_, c_n bq13_, c_n bq13_, c_n bq13_, c_d bq19_, c_le 3, c_le 2] [k_c fq21_, k_c fq23_] (by kernel_rfl)
  have hq20_ := (if_neg bq19_).symm.trans hq14_
  obtain ⟨r78, fq25_, hq26_⟩ := pullD_elim hq20_
  replace fq25_ := m_91_ok fq25_
  obtain ⟨r79, fq27_, hq28_⟩ := pullD_elim hq26_
  replace fq27_ := m_45_ok fq27_
  obtain rfl := Option.some.inj hq28_
  exact con_pc (op := true) (I := [64, 90, 101]) (sp := chkFigures_sp) 3000 (bT 1 (bF 5 (bT 1 (bF 5 (bT 1 (bF 5 (bT 1 (bF 4 (bT 2 (bF 5 (bT 1 (bF 6 [])))))))))))) [iD r78, iD r79] [c_T, c_n b1_, c_n b1_, c_n b1_, c_n b1_, c_n b3_, c_T, c_n b5_, c_n b5_, c_n b5_, c_n b5_, c_n b7_, c_T, c_n b9_, c_n b9_, c_n b9_, c_n b9_, c_n b11_, c_T, c_n b13_, c_n b13_, c_n b13_, c_n b13_, c_d b15_, c_T, c_n bq1_, c_n bq1_, c_n bq1_, c_n bq1_, c_n bq7_, c_T, c_n bq13_, c_n bq13_, c_n bq13_, c_n bq13_, c_n bq19_, c_F, c_le 3, c_le 2] [k_c fq25_, k_c fq27_] (by kernel_rfl)
theorem chkFigures_M_s8_ok (ga pl ph tl th nl nh ul uh : Int)  (b1_ : ¬ (ga < (0 : Int))) (b3_ : ¬ (ga > (63 : Int))) (b5_ : ¬ (tl < (0 : Int))) (b7_ : ¬ (tl > (63 : Int))) (b9_ : ¬ (th < (0 : Int))) (b11_ : ¬ (th > (63 : Int))) (b13_ : ¬ (nl < (0 : Int))) (b15_ : ¬ (nl > (63 : Int))) (b17_ : nh < (0 : Int)) {r : D} (h : chkFigures_M_s8 ga pl ph tl th nl nh ul uh = some r) : Con 64 [(shNL7_0 ga pl ph tl th nl nh ul uh)] r := by
  unfold chkFigures_M_s8 at h
  by_cases bq1_ : pl < (1 : Int)
  · have hq2_ := (if_pos bq1_).symm.trans h
    obtain ⟨r80, fq3_, hq4_⟩ := pullD_elim hq2_
    replace fq3_ := m_91_ok fq3_
    obtain ⟨r81, fq5_, hq6_⟩ := pullD_elim hq4_
    replace fq5_ := m_45_ok fq5_
    obtain rfl := Option.some.inj hq6_
    exact con_pc (op := true) (I := [64, 90, 101]) (sp := chkFigures_sp) 3000 (bT 1 (bF 5 (bT 1 (bF 5 (bT 1 (bF 5 (bT 1 (bF 5 (bT 12 []))))))))) [iD r80, iD r81] [c_T, c_n b1_, c_n b1_, c_n b1_, c_n b1_, c_n b3_, c_T, c_n b5_, c_n b5_, c_n b5_, c_n b5_, c_n b7_, c_T, c_n b9_, c_n b9_, c_n b9_, c_n b9_, c_n b11_, c_T, c_n b13_, c_n b13_, c_n b13_, c_n b13_, c_n b15_, c_T, c_d b17_, c_d b17_, c_d b17_, c_d b17_, c_T, c_T, c_d bq1_, c_d bq1_, c_d bq1_, c_d bq1_, c_T, c_le 3, c_le 2] [k_c fq3_, k_c fq5_] (by kernel_rfl)
  have hq2_ := (if_neg bq1_).symm.trans h
  by_cases bq7_ : pl > (4196 : Int)
  · have hq8_ := (if_pos bq7_).symm.trans hq2_
    obtain ⟨r82, fq9_, hq10_⟩ := pullD_elim hq8_
    replace fq9_ := m_91_ok fq9_
    obtain ⟨r83, fq11_, hq12_⟩ := pullD_elim hq10_
    replace fq11_ := m_45_ok fq11_
    obtain rfl := Option.some.inj hq12_
    exact con_pc (op := true) (I := [64, 90, 101]) (sp := chkFigures_sp) 3000 (bT 1 (bF 5 (bT 1 (bF 5 (bT 1 (bF 5 (bT 1 (bF 5 (bT 7 (bF 4 (bT 1 []))))))))))) [iD r82, iD r83] [c_T, c_n b1_, c_n b1_, c_n b1_, c_n b1_, c_n b3_, c_T, c_n b5_, c_n b5_, c_n b5_, c_n b5_, c_n b7_, c_T, c_n b9_, c_n b9_, c_n b9_, c_n b9_, c_n b11_, c_T, c_n b13_, c_n b13_, c_n b13_, c_n b13_, c_n b15_, c_T, c_d b17_, c_d b17_, c_d b17_, c_d b17_, c_T, c_T, c_n bq1_, c_n bq1_, c_n bq1_, c_n bq1_, c_d bq7_, c_le 3, c_le 2] [k_c fq9_, k_c fq11_] (by kernel_rfl)
  have hq8_ := (if_neg bq7_).symm.trans hq2_
  by_cases bq13_ : ph < (1 : Int)
  · have hq14_ := (if_pos bq13_).symm.trans hq8_
    obtain ⟨r84, fq15_, hq16_⟩ := pullD_elim hq14_
    replace fq15_ := m_91_ok fq15_
    obtain ⟨r85, fq17_, hq18_⟩ := pullD_elim hq16_
    replace fq17_ := m_45_ok fq17_
    obtain rfl := Option.some.inj hq18_
    exact con_pc (op := true) (I := [64, 90, 101]) (sp := chkFigures_sp) 3000 (bT 1 (bF 5 (bT 1 (bF 5 (bT 1 (bF 5 (bT 1 (bF 5 (bT 7 (bF 5 (bT 6 []))))))))))) [iD r84, iD r85] [c_T, c_n b1_, c_n b1_, c_n b1_, c_n b1_, c_n b3_, c_T, c_n b5_, c_n b5_, c_n b5_, c_n b5_, c_n b7_, c_T, c_n b9_, c_n b9_, c_n b9_, c_n b9_, c_n b11_, c_T, c_n b13_, c_n b13_, c_n b13_, c_n b13_, c_n b15_, c_T, c_d b17_, c_d b17_, c_d b17_, c_d b17_, c_T, c_T, c_n bq1_, c_n bq1_, c_n bq1_, c_n bq1_, c_n bq7_, c_T, c_d bq13_, c_d bq13_, c_d bq13_, c_d bq13_, c_T, c_le 3, c_le 2] [k_c fq15_, k_c fq17_] (by kernel_rfl)
  have hq14_ := (if_neg bq13_).symm.trans hq8_
  by_cases bq19_ : ph > (4196 : Int)
  · have hq20_ := (if_pos bq19_).symm.trans hq14_
    obtain ⟨r86, fq21_, hq22_⟩ := pullD_elim hq20_
    replace fq21_ := m_91_ok fq21_
    obtain ⟨r87, fq23_, hq24_⟩ := pullD_elim hq22_
    replace fq23_ := m_45_ok fq23_
    obtain rfl := Option.some.inj hq24_
    exact con_pc (op := true) (I := [64, 90, 101]) (sp := chkFigures_sp) 3000 (bT 1 (bF 5 (bT 1 (bF 5 (bT 1 (bF 5 (bT 1 (bF 5 (bT 7 (bF 5 (bT 1 (bF 4 (bT 1 []))))))))))))) [iD r86, iD r87] [c_T, c_n b1_, c_n b1_, c_n b1_, c_n b1_, c_n b3_, c_T, c_n b5_, c_n b5_, c_n b5_, c_n b5_, c_n b7_, c_T, c_n b9_, c_n b9_, c_n b9_, c_n b9_, c_n b11_, c_T, c_n b13_, c_n b13_, c_n b13_, c_n b13_, c_n b15_, c_T, c_d b17_, c_d b17_, c_d b17_, c_d b17_, c_T, c_T, c_n bq1_, c_n bq1_, c_n bq1_, c_n bq1_, c_n bq7_, c_T, c_n bq13_, c_n bq13_, c_n bq13_, c_n bq13_, c_d bq19_, c_le 3, c_le 2] [k_c fq21_, k_c fq23_] (by kernel_rfl)
  have hq20_ := (if_neg bq19_).symm.trans hq14_
  obtain ⟨r88, fq25_, hq26_⟩ := pullD_elim hq20_
  replace fq25_ := m_91_ok fq25_
  obtain ⟨r89, fq27_, hq28_⟩ := pullD_elim hq26_
  replace fq27_ := m_45_ok fq27_
  obtain rfl := Option.some.inj hq28_
  exact con_pc (op := true) (I := [64, 90, 101]) (sp := chkFigures_sp) 3000 (bT 1 (bF 5 (bT 1 (bF 5 (bT 1 (bF 5 (bT 1 (bF 5 (bT 7 (bF 5 (bT 1 (bF 6 [])))))))))))) [iD r88, iD r89] [c_T, c_n b1_, c_n b1_, c_n b1_, c_n b1_, c_n b3_, c_T, c_n b5_, c_n b5_, c_n b5_, c_n b5_, c_n b7_, c_T, c_n b9_, c_n b9_, c_n b9_, c_n b9_, c_n b11_, c_T, c_n b13_, c_n b13_, c_n b13_, c_n b13_, c_n b15_, c_T, c_d b17_, c_d b17_, c_d b17_, c_d b17_, c_T, c_T, c_n bq1_, c_n bq1_, c_n bq1_, c_n bq1_, c_n bq7_, c_T, c_n bq13_, c_n bq13_, c_n bq13_, c_n bq13_, c_n bq19_, c_F, c_le 3, c_le 2] [k_c fq25_, k_c fq27_] (by kernel_rfl)
theorem chkFigures_M_s9_ok (ga pl ph tl th nl nh ul uh : Int)  (b1_ : ¬ (ga < (0 : Int))) (b3_ : ¬ (ga > (63 : Int))) (b5_ : ¬ (tl < (0 : Int))) (b7_ : ¬ (tl > (63 : Int))) (b9_ : ¬ (th < (0 : Int))) (b11_ : ¬ (th > (63 : Int))) (b13_ : ¬ (nl < (0 : Int))) (b15_ : ¬ (nl > (63 : Int))) (b17_ : ¬ (nh < (0 : Int))) (b19_ : nh > (63 : Int)) {r : D} (h : chkFigures_M_s9 ga pl ph tl th nl nh ul uh = some r) : Con 64 [(shNL7_0 ga pl ph tl th nl nh ul uh)] r := by
  unfold chkFigures_M_s9 at h
  by_cases bq1_ : pl < (1 : Int)
  · have hq2_ := (if_pos bq1_).symm.trans h
    obtain ⟨r90, fq3_, hq4_⟩ := pullD_elim hq2_
    replace fq3_ := m_91_ok fq3_
    obtain ⟨r91, fq5_, hq6_⟩ := pullD_elim hq4_
    replace fq5_ := m_45_ok fq5_
    obtain rfl := Option.some.inj hq6_
    exact con_pc (op := true) (I := [64, 90, 101]) (sp := chkFigures_sp) 3000 (bT 1 (bF 5 (bT 1 (bF 5 (bT 1 (bF 5 (bT 1 (bF 5 (bT 1 (bF 4 (bT 7 []))))))))))) [iD r90, iD r91] [c_T, c_n b1_, c_n b1_, c_n b1_, c_n b1_, c_n b3_, c_T, c_n b5_, c_n b5_, c_n b5_, c_n b5_, c_n b7_, c_T, c_n b9_, c_n b9_, c_n b9_, c_n b9_, c_n b11_, c_T, c_n b13_, c_n b13_, c_n b13_, c_n b13_, c_n b15_, c_T, c_n b17_, c_n b17_, c_n b17_, c_n b17_, c_d b19_, c_T, c_d bq1_, c_d bq1_, c_d bq1_, c_d bq1_, c_T, c_le 3, c_le 2] [k_c fq3_, k_c fq5_] (by kernel_rfl)
  have hq2_ := (if_neg bq1_).symm.trans h
  by_cases bq7_ : pl > (4196 : Int)
  · have hq8_ := (if_pos bq7_).symm.trans hq2_
    obtain ⟨r92, fq9_, hq10_⟩ := pullD_elim hq8_
    replace fq9_ := m_91_ok fq9_
    obtain ⟨r93, fq11_, hq12_⟩ := pullD_elim hq10_
    replace fq11_ := m_45_ok fq11_
    obtain rfl := Option.some.inj hq12_
    exact con_pc (op := true) (I := [64, 90, 101]) (sp := chkFigures_sp) 3000 (bT 1 (bF 5 (bT 1 (bF 5 (bT 1 (bF 5 (bT 1 (bF 5 (bT 1 (bF 4 (bT 2 (bF 4 (bT 1 []))))))))))))) [iD r92, iD r93] [c_T, c_n b1_, c_n b1_, c_n b1_, c_n b1_, c_n b3_, c_T, c_n b5_, c_n b5_, c_n b5_, c_n b5_, c_n b7_, c_T, c_n b9_, c_n b9_, c_n b9_, c_n b9_, c_n b11_, c_T, c_n b13_, c_n b13_, c_n b13_, c_n b13_, c_n b15_, c_T, c_n b17_, c_n b17_, c_n b17_, c_n b17_, c_d b19_, c_T, c_n bq1_, c_n bq1_, c_n bq1_, c_n bq1_, c_d bq7_, c_le 3, c_le 2] [k_c fq9_, k_c fq11_] (by kernel_rfl)
  have hq8_ := (if_neg bq7_).symm.trans hq2_
  by_cases bq13_ : ph < (1 : Int)
  · have hq14_ := (if_pos bq13_).symm.trans hq8_
    obtain ⟨r94, fq15_, hq16_⟩ := pullD_elim hq14_
    replace fq15_ := m_91_ok fq15_
    obtain ⟨r95, fq17_, hq18_⟩ := pullD_elim hq16_
    replace fq17_ := m_45_ok fq17_
    obtain rfl := Option.some.inj hq18_
    exact con_pc (op := true) (I := [64, 90, 101]) (sp := chkFigures_sp) 3000 (bT 1 (bF 5 (bT 1 (bF 5 (bT 1 (bF 5 (bT 1 (bF 5 (bT 1 (bF 4 (bT 2 (bF 5 (bT 6 []))))))))))))) [iD r94, iD r95] [c_T, c_n b1_, c_n b1_, c_n b1_, c_n b1_, c_n b3_, c_T, c_n b5_, c_n b5_, c_n b5_, c_n b5_, c_n b7_, c_T, c_n b9_, c_n b9_, c_n b9_, c_n b9_, c_n b11_, c_T, c_n b13_, c_n b13_, c_n b13_, c_n b13_, c_n b15_, c_T, c_n b17_, c_n b17_, c_n b17_, c_n b17_, c_d b19_, c_T, c_n bq1_, c_n bq1_, c_n bq1_, c_n bq1_, c_n bq7_, c_T, c_d bq13_, c_d bq13_, c_d bq13_, c_d bq13_, c_T, c_le 3, c_le 2] [k_c fq15_, k_c fq17_] (by kernel_rfl)
  have hq14_ := (if_neg bq13_).symm.trans hq8_
  by_cases bq19_ : ph > (4196 : Int)
  · have hq20_ := (if_pos bq19_).symm.trans hq14_
    obtain ⟨r96, fq21_, hq22_⟩ := pullD_elim hq20_
    replace fq21_ := m_91_ok fq21_
    obtain ⟨r97, fq23_, hq24_⟩ := pullD_elim hq22_
    replace fq23_ := m_45_ok fq23_
    obtain rfl := Option.some.inj hq24_
    exact con_pc (op := true) (I := [64, 90, 101]) (sp := chkFigures_sp) 3000 (bT 1 (bF 5 (bT 1 (bF 5 (bT 1 (bF 5 (bT 1 (bF 5 (bT 1 (bF 4 (bT 2 (bF 5 (bT 1 (bF 4 (bT 1 []))))))))))))))) [iD r96, iD r97] [c_T, c_n b1_, c_n b1_, c_n b1_, c_n b1_, c_n b3_, c_T, c_n b5_, c_n b5_, c_n b5_, c_n b5_, c_n b7_, c_T, c_n b9_, c_n b9_, c_n b9_, c_n b9_, c_n b11_, c_T, c_n b13_, c_n b13_, c_n b13_, c_n b13_, c_n b15_, c_T, c_n b17_, c_n b17_, c_n b17_, c_n b17_, c_d b19_, c_T, c_n bq1_, c_n bq1_, c_n bq1_, c_n bq1_, c_n bq7_, c_T, c_n bq13_, c_n bq13_, c_n bq13_, c_n bq13_, c_d bq19_, c_le 3, c_le 2] [k_c fq21_, k_c fq23_] (by kernel_rfl)
  have hq20_ := (if_neg bq19_).symm.trans hq14_
  obtain ⟨r98, fq25_, hq26_⟩ := pullD_elim hq20_
  replace fq25_ := m_91_ok fq25_
  obtain ⟨r99, fq27_, hq28_⟩ := pullD_elim hq26_
  replace fq27_ := m_45_ok fq27_
  obtain rfl := Option.some.inj hq28_
  exact con_pc (op := true) (I := [64, 90, 101]) (sp := chkFigures_sp) 3000 (bT 1 (bF 5 (bT 1 (bF 5 (bT 1 (bF 5 (bT 1 (bF 5 (bT 1 (bF 4 (bT 2 (bF 5 (bT 1 (bF 6 [])))))))))))))) [iD r98, iD r99] [c_T, c_n b1_, c_n b1_, c_n b1_, c_n b1_, c_n b3_, c_T, c_n b5_, c_n b5_, c_n b5_, c_n b5_, c_n b7_, c_T, c_n b9_, c_n b9_, c_n b9_, c_n b9_, c_n b11_, c_T, c_n b13_, c_n b13_, c_n b13_, c_n b13_, c_n b15_, c_T, c_n b17_, c_n b17_, c_n b17_, c_n b17_, c_d b19_, c_T, c_n bq1_, c_n bq1_, c_n bq1_, c_n bq1_, c_n bq7_, c_T, c_n bq13_, c_n bq13_, c_n bq13_, c_n bq13_, c_n bq19_, c_F, c_le 3, c_le 2] [k_c fq25_, k_c fq27_] (by kernel_rfl)
theorem chkFigures_M_s10_ok (ga pl ph tl th nl nh ul uh : Int)  (b1_ : ¬ (ga < (0 : Int))) (b3_ : ¬ (ga > (63 : Int))) (b5_ : ¬ (tl < (0 : Int))) (b7_ : ¬ (tl > (63 : Int))) (b9_ : ¬ (th < (0 : Int))) (b11_ : ¬ (th > (63 : Int))) (b13_ : ¬ (nl < (0 : Int))) (b15_ : ¬ (nl > (63 : Int))) (b17_ : ¬ (nh < (0 : Int))) (b19_ : ¬ (nh > (63 : Int))) (b21_ : ul < (0 : Int)) {r : D} (h : chkFigures_M_s10 ga pl ph tl th nl nh ul uh = some r) : Con 64 [(shNL7_0 ga pl ph tl th nl nh ul uh)] r := by
  unfold chkFigures_M_s10 at h
  by_cases bq1_ : pl < (1 : Int)
  · have hq2_ := (if_pos bq1_).symm.trans h
    obtain ⟨r100, fq3_, hq4_⟩ := pullD_elim hq2_
    replace fq3_ := m_91_ok fq3_
    obtain ⟨r101, fq5_, hq6_⟩ := pullD_elim hq4_
    replace fq5_ := m_45_ok fq5_
    obtain rfl := Option.some.inj hq6_
    exact con_pc (op := true) (I := [64, 90, 101]) (sp := chkFigures_sp) 3000 (bT 1 (bF 5 (bT 1 (bF 5 (bT 1 (bF 5 (bT 1 (bF 5 (bT 1 (bF 5 (bT 12 []))))))))))) [iD r100, iD r101] [c_T, c_n b1_, c_n b1_, c_n b1_, c_n b1_, c_n b3_, c_T, c_n b5_, c_n b5_, c_n b5_, c_n b5_, c_n b7_, c_T, c_n b9_, c_n b9_, c_n b9_, c_n b9_, c_n b11_, c_T, c_n b13_, c_n b13_, c_n b13_, c_n b13_, c_n b15_, c_T, c_n b17_, c_n b17_, c_n b17_, c_n b17_, c_n b19_, c_T, c_d b21_, c_d b21_, c_d b21_, c_d b21_, c_T, c_T, c_d bq1_, c_d bq1_, c_d bq1_, c_d bq1_, c_T, c_le 3, c_le 2] [k_c fq3_, k_c fq5_] (by kernel_rfl)
  have hq2_ := (if_neg bq1_).symm.trans h
  by_cases bq7_ : pl > (4196 : Int)
  · have hq8_ := (if_pos bq7_).symm.trans hq2_
    obtain ⟨r102, fq9_, hq10_⟩ := pullD_elim hq8_
    replace fq9_ := m_91_ok fq9_
    obtain ⟨r103, fq11_, hq12_⟩ := pullD_elim hq10_
    replace fq11_ := m_45_ok fq11_
    obtain rfl := Option.some.inj hq12_
    exact con_pc (op := true) (I := [64, 90, 101]) (sp := chkFigures_sp) 3000 (bT 1 (bF 5 (bT 1 (bF 5 (bT 1 (bF 5 (bT 1 (bF 5 (bT 1 (bF 5 (bT 7 (bF 4 (bT 1 []))))))))))))) [iD r102, iD r103] [c_T, c_n b1_, c_n b1_, c_n b1_, c_n b1_, c_n b3_, c_T, c_n b5_, c_n b5_, c_n b5_, c_n b5_, c_n b7_, c_T, c_n b9_, c_n b9_, c_n b9_, c_n b9_, c_n b11_, c_T, c_n b13_, c_n b13_, c_n b13_, c_n b13_, c_n b15_, c_T, c_n b17_, c_n b17_, c_n b17_, c_n b17_, c_n b19_, c_T, c_d b21_, c_d b21_, c_d b21_, c_d b21_, c_T, c_T, c_n bq1_, c_n bq1_, c_n bq1_, c_n bq1_, c_d bq7_, c_le 3, c_le 2] [k_c fq9_, k_c fq11_] (by kernel_rfl)
  have hq8_ := (if_neg bq7_).symm.trans hq2_
  by_cases bq13_ : ph < (1 : Int)
  · have hq14_ := (if_pos bq13_).symm.trans hq8_
    obtain ⟨r104, fq15_, hq16_⟩ := pullD_elim hq14_
    replace fq15_ := m_91_ok fq15_
    obtain ⟨r105, fq17_, hq18_⟩ := pullD_elim hq16_
    replace fq17_ := m_45_ok fq17_
    obtain rfl := Option.some.inj hq18_
    exact con_pc (op := true) (I := [64, 90, 101]) (sp := chkFigures_sp) 3000 (bT 1 (bF 5 (bT 1 (bF 5 (bT 1 (bF 5 (bT 1 (bF 5 (bT 1 (bF 5 (bT 7 (bF 5 (bT 6 []))))))))))))) [iD r104, iD r105] [c_T, c_n b1_, c_n b1_, c_n b1_, c_n b1_, c_n b3_, c_T, c_n b5_, c_n b5_, c_n b5_, c_n b5_, c_n b7_, c_T, c_n b9_, c_n b9_, c_n b9_, c_n b9_, c_n b11_, c_T, c_n b13_, c_n b13_, c_n b13_, c_n b13_, c_n b15_, c_T, c_n b17_, c_n b17_, c_n b17_, c_n b17_, c_n b19_, c_T, c_d b21_, c_d b21_, c_d b21_, c_d b21_, c_T, c_T, c_n bq1_, c_n bq1_, c_n bq1_, c_n bq1_, c_n bq7_, c_T, c_d bq13_, c_d bq13_, c_d bq13_, c_d bq13_, c_T, c_le 3, c_le 2] [k_c fq15_, k_c fq17_] (by kernel_rfl)
  have hq14_ := (if_neg bq13_).symm.trans hq8_
  by_cases bq19_ : ph > (4196 : Int)
  · have hq20_ := (if_pos bq19_).symm.trans hq14_
    obtain ⟨r106, fq21_, hq22_⟩ := pullD_elim hq20_
    replace fq21_ := m_91_ok fq21_
    obtain ⟨r107, fq23_, hq24_⟩ := pullD_elim hq22_
    replace fq23_ := m_45_ok fq23_
    obtain rfl := Option.some.inj hq24_
    exact con_pc (op := true) (I := [64, 90, 101]) (sp := chkFigures_sp) 3000 (bT 1 (bF 5 (bT 1 (bF 5 (bT 1 (bF 5 (bT 1 (bF 5 (bT 1 (bF 5 (bT 7 (bF 5 (bT 1 (bF 4 (bT 1 []))))))))))))))) [iD r106, iD r107] [c_T, c_n b1_, c_n b1_, c_n b1_, c_n b1_, c_n b3_, c_T, c_n b5_, c_n b5_, c_n b5_, c_n b5_, c_n b7_, c_T, c_n b9_, c_n b9_, c_n b9_, c_n b9_, c_n b11_, c_T, c_n b13_, c_n b13_, c_n b13_, c_n b13_, c_n b15_, c_T, c_n b17_, c_n b17_, c_n b17_, c_n b17_, c_n b19_, c_T, c_d b21_, c_d b21_, c_d b21_, c_d b21_, c_T, c_T, c_n bq1_, c_n bq1_, c_n bq1_, c_n bq1_, c_n bq7_, c_T, c_n bq13_, c_n bq13_, c_n bq13_, c_n bq13_, c_d bq19_, c_le 3, c_le 2] [k_c fq21_, k_c fq23_] (by kernel_rfl)
  have hq20_ := (if_neg bq19_).symm.trans hq14_
  obtain ⟨r108, fq25_, hq26_⟩ := pullD_elim hq20_
  replace fq25_ := m_91_ok fq25_
  obtain ⟨r109, fq27_, hq28_⟩ := pullD_elim hq26_
  replace fq27_ := m_45_ok fq27_
  obtain rfl := Option.some.inj hq28_
  exact con_pc (op := true) (I := [64, 90, 101]) (sp := chkFigures_sp) 3000 (bT 1 (bF 5 (bT 1 (bF 5 (bT 1 (bF 5 (bT 1 (bF 5 (bT 1 (bF 5 (bT 7 (bF 5 (bT 1 (bF 6 [])))))))))))))) [iD r108, iD r109] [c_T, c_n b1_, c_n b1_, c_n b1_, c_n b1_, c_n b3_, c_T, c_n b5_, c_n b5_, c_n b5_, c_n b5_, c_n b7_, c_T, c_n b9_, c_n b9_, c_n b9_, c_n b9_, c_n b11_, c_T, c_n b13_, c_n b13_, c_n b13_, c_n b13_, c_n b15_, c_T, c_n b17_, c_n b17_, c_n b17_, c_n b17_, c_n b19_, c_T, c_d b21_, c_d b21_, c_d b21_, c_d b21_, c_T, c_T, c_n bq1_, c_n bq1_, c_n bq1_, c_n bq1_, c_n bq7_, c_T, c_n bq13_, c_n bq13_, c_n bq13_, c_n bq13_, c_n bq19_, c_F, c_le 3, c_le 2] [k_c fq25_, k_c fq27_] (by kernel_rfl)
theorem chkFigures_M_s11_ok (ga pl ph tl th nl nh ul uh : Int)  (b1_ : ¬ (ga < (0 : Int))) (b3_ : ¬ (ga > (63 : Int))) (b5_ : ¬ (tl < (0 : Int))) (b7_ : ¬ (tl > (63 : Int))) (b9_ : ¬ (th < (0 : Int))) (b11_ : ¬ (th > (63 : Int))) (b13_ : ¬ (nl < (0 : Int))) (b15_ : ¬ (nl > (63 : Int))) (b17_ : ¬ (nh < (0 : Int))) (b19_ : ¬ (nh > (63 : Int))) (b21_ : ¬ (ul < (0 : Int))) {r : D} (h : chkFigures_M_s11 ga pl ph tl th nl nh ul uh = some r) : Con 64 [(shNL7_0 ga pl ph tl th nl nh ul uh)] r := by
  unfold chkFigures_M_s11 at h
  by_cases bq1_ : ul > (63 : Int)
  · have hq2_ := (if_pos bq1_).symm.trans h
    by_cases bq3_ : pl < (1 : Int)
    · have hq4_ := (if_pos bq3_).symm.trans hq2_
      obtain ⟨r110, fq5_, hq6_⟩ := pullD_elim hq4_
      replace fq5_ := m_91_ok fq5_
      obtain ⟨r111, fq7_, hq8_⟩ := pullD_elim hq6_
      replace fq7_ := m_45_ok fq7_
      obtain rfl := Option.some.inj hq8_
      exact con_pc (op := true) (I := [64, 90, 101]) (sp := chkFigures_sp) 3000 (bT 1 (bF 5 (bT 1 (bF 5 (bT 1 (bF 5 (bT 1 (bF 5 (bT 1 (bF 5 (bT 1 (bF 4 (bT 7 []))))))))))))) [iD r110, iD r111] [c_T, c_n b1_, c_n b1_, c_n b1_, c_n b1_, c_n b3_, c_T, c_n b5_, c_n b5_, c_n b5_, c_n b5_, c_n b7_, c_T, c_n b9_, c_n b9_, c_n b9_, c_n b9_, c_n b11_, c_T, c_n b13_, c_n b13_, c_n b13_, c_n b13_, c_n b15_, c_T, c_n b17_, c_n b17_, c_n b17_, c_n b17_, c_n b19_, c_T, c_n b21_, c_n b21_, c_n b21_, c_n b21_, c_d bq1_, c_T, c_d bq3_, c_d bq3_, c_d bq3_, c_d bq3_, c_T, c_le 3, c_le 2] [k_c fq5_, k_c fq7_] (by kernel_rfl)
    have hq4_ := (if_neg bq3_).symm.trans hq2_
    by_cases bq9_ : pl > (4196 : Int)
    · have hq10_ := (if_pos bq9_).symm.trans hq4_
      obtain ⟨r112, fq11_, hq12_⟩ := pullD_elim hq10_
      replace fq11_ := m_91_ok fq11_
      obtain ⟨r113, fq13_, hq14_⟩ := pullD_elim hq12_
      replace fq13_ := m_45_ok fq13_
      obtain rfl := Option.some.inj hq14_
      exact con_pc (op := true) (I := [64, 90, 101]) (sp := chkFigures_sp) 3000 (bT 1 (bF 5 (bT 1 (bF 5 (bT 1 (bF 5 (bT 1 (bF 5 (bT 1 (bF 5 (bT 1 (bF 4 (bT 2 (bF 4 (bT 1 []))))))))))))))) [iD r112, iD r113] [c_T, c_n b1_, c_n b1_, c_n b1_, c_n b1_, c_n b3_, c_T, c_n b5_, c_n b5_, c_n b5_, c_n b5_, c_n b7_, c_T, c_n b9_, c_n b9_, c_n b9_, c_n b9_, c_n b11_, c_T, c_n b13_, c_n b13_, c_n b13_, c_n b13_, c_n b15_, c_T, c_n b17_, c_n b17_, c_n b17_, c_n b17_, c_n b19_, c_T, c_n b21_, c_n b21_, c_n b21_, c_n b21_, c_d bq1_, c_T, c_n bq3_, c_n bq3_, c_n bq3_, c_n bq3_, c_d bq9_, c_le 3, c_le 2] [k_c fq11_, k_c fq13_] (by kernel_rfl)
    have hq10_ := (if_neg bq9_).symm.trans hq4_
    by_cases bq15_ : ph < (1 : Int)
    · have hq16_ := (if_pos bq15_).symm.trans hq10_
      obtain ⟨r114, fq17_, hq18_⟩ := pullD_elim hq16_
      replace fq17_ := m_91_ok fq17_
      obtain ⟨r115, fq19_, hq20_⟩ := pullD_elim hq18_
      replace fq19_ := m_45_ok fq19_
      obtain rfl := Option.some.inj hq20_
      exact con_pc (op := true) (I := [64, 90, 101]) (sp := chkFigures_sp) 3000 (bT 1 (bF 5 (bT 1 (bF 5 (bT 1 (bF 5 (bT 1 (bF 5 (bT 1 (bF 5 (bT 1 (bF 4 (bT 2 (bF 5 (bT 6 []))))))))))))))) [iD r114, iD r115] [c_T, c_n b1_, c_n b1_, c_n b1_, c_n b1_, c_n b3_, c_T, c_n b5_, c_n b5_, c_n b5_, c_n b5_, c_n b7_, c_T, c_n b9_, c_n b9_, c_n b9_, c_n b9_, c_n b11_, c_T, c_n b13_, c_n b13_, c_n b13_, c_n b13_, c_n b15_, c_T, c_n b17_, c_n b17_, c_n b17_, c_n b17_, c_n b19_, c_T, c_n b21_, c_n b21_, c_n b21_, c_n b21_, c_d bq1_, c_T, c_n bq3_, c_n bq3_, c_n bq3_, c_n bq3_, c_n bq9_, c_T, c_d bq15_, c_d bq15_, c_d bq15_, c_d bq15_, c_T, c_le 3, c_le 2] [k_c fq17_, k_c fq19_] (by kernel_rfl)
    have hq16_ := (if_neg bq15_).symm.trans hq10_
    by_cases bq21_ : ph > (4196 : Int)
    · have hq22_ := (if_pos bq21_).symm.trans hq16_
      obtain ⟨r116, fq23_, hq24_⟩ := pullD_elim hq22_
      replace fq23_ := m_91_ok fq23_
      obtain ⟨r117, fq25_, hq26_⟩ := pullD_elim hq24_
      replace fq25_ := m_45_ok fq25_
      obtain rfl := Option.some.inj hq26_
      exact con_pc (op := true) (I := [64, 90, 101]) (sp := chkFigures_sp) 3000 (bT 1 (bF 5 (bT 1 (bF 5 (bT 1 (bF 5 (bT 1 (bF 5 (bT 1 (bF 5 (bT 1 (bF 4 (bT 2 (bF 5 (bT 1 (bF 4 (bT 1 []))))))))))))))))) [iD r116, iD r117] [c_T, c_n b1_, c_n b1_, c_n b1_, c_n b1_, c_n b3_, c_T, c_n b5_, c_n b5_, c_n b5_, c_n b5_, c_n b7_, c_T, c_n b9_, c_n b9_, c_n b9_, c_n b9_, c_n b11_, c_T, c_n b13_, c_n b13_, c_n b13_, c_n b13_, c_n b15_, c_T, c_n b17_, c_n b17_, c_n b17_, c_n b17_, c_n b19_, c_T, c_n b21_, c_n b21_, c_n b21_, c_n b21_, c_d bq1_, c_T, c_n bq3_, c_n bq3_, c_n bq3_, c_n bq3_, c_n bq9_, c_T, c_n bq15_, c_n bq15_, c_n bq15_, c_n bq15_, c_d bq21_, c_le 3, c_le 2] [k_c fq23_, k_c fq25_] (by kernel_rfl)
    have hq22_ := (if_neg bq21_).symm.trans hq16_
    obtain ⟨r118, fq27_, hq28_⟩ := pullD_elim hq22_
    replace fq27_ := m_91_ok fq27_
    obtain ⟨r119, fq29_, hq30_⟩ := pullD_elim hq28_
    replace fq29_ := m_45_ok fq29_
    obtain rfl := Option.some.inj hq30_
    exact con_pc (op := true) (I := [64, 90, 101]) (sp := chkFigures_sp) 3000 (bT 1 (bF 5 (bT 1 (bF 5 (bT 1 (bF 5 (bT 1 (bF 5 (bT 1 (bF 5 (bT 1 (bF 4 (bT 2 (bF 5 (bT 1 (bF 6 [])))))))))))))))) [iD r118, iD r119] [c_T, c_n b1_, c_n b1_, c_n b1_, c_n b1_, c_n b3_, c_T, c_n b5_, c_n b5_, c_n b5_, c_n b5_, c_n b7_, c_T, c_n b9_, c_n b9_, c_n b9_, c_n b9_, c_n b11_, c_T, c_n b13_, c_n b13_, c_n b13_, c_n b13_, c_n b15_, c_T, c_n b17_, c_n b17_, c_n b17_, c_n b17_, c_n b19_, c_T, c_n b21_, c_n b21_, c_n b21_, c_n b21_, c_d bq1_, c_T, c_n bq3_, c_n bq3_, c_n bq3_, c_n bq3_, c_n bq9_, c_T, c_n bq15_, c_n bq15_, c_n bq15_, c_n bq15_, c_n bq21_, c_F, c_le 3, c_le 2] [k_c fq27_, k_c fq29_] (by kernel_rfl)
  have hq2_ := (if_neg bq1_).symm.trans h
  by_cases bq31_ : uh < (0 : Int)
  · have hq32_ := (if_pos bq31_).symm.trans hq2_
    by_cases bq33_ : pl < (1 : Int)
    · have hq34_ := (if_pos bq33_).symm.trans hq32_
      obtain ⟨r120, fq35_, hq36_⟩ := pullD_elim hq34_
      replace fq35_ := m_91_ok fq35_
      obtain ⟨r121, fq37_, hq38_⟩ := pullD_elim hq36_
      replace fq37_ := m_45_ok fq37_
      obtain rfl := Option.some.inj hq38_
      exact con_pc (op := true) (I := [64, 90, 101]) (sp := chkFigures_sp) 3000 (bT 1 (bF 5 (bT 1 (bF 5 (bT 1 (bF 5 (bT 1 (bF 5 (bT 1 (bF 5 (bT 1 (bF 5 (bT 12 []))))))))))))) [iD r120, iD r121] [c_T, c_n b1_, c_n b1_, c_n b1_, c_n b1_, c_n b3_, c_T, c_n b5_, c_n b5_, c_n b5_, c_n b5_, c_n b7_, c_T, c_n b9_, c_n b9_, c_n b9_, c_n b9_, c_n b11_, c_T, c_n b13_, c_n b13_, c_n b13_, c_n b13_, c_n b15_, c_T, c_n b17_, c_n b17_, c_n b17_, c_n b17_, c_n b19_, c_T, c_n b21_, c_n b21_, c_n b21_, c_n b21_, c_n bq1_, c_T, c_d bq31_, c_d bq31_, c_d bq31_, c_d bq31_, c_T, c_T, c_d bq33_, c_d bq33_, c_d bq33_, c_d bq33_, c_T, c_le 3, c_le 2] [k_c fq35_, k_c fq37_] (by kernel_rfl)
    have hq34_ := (if_neg bq33_).symm.trans hq32_
    by_cases bq39_ : pl > (4196 : Int)
    · have hq40_ := (if_pos bq39_).symm.trans hq34_
      obtain ⟨r122, fq41_, hq42_⟩ := pullD_elim hq40_
      replace fq41_ := m_91_ok fq41_
      obtain ⟨r123, fq43_, hq44_⟩ := pullD_elim hq42_
      replace fq43_ := m_45_ok fq43_
      obtain rfl := Option.some.inj hq44_
      exact con_pc (op := true) (I := [64, 90, 101]) (sp := chkFigures_sp) 3000 (bT 1 (bF 5 (bT 1 (bF 5 (bT 1 (bF 5 (bT 1 (bF 5 (bT 1 (bF 5 (bT 1 (bF 5 (bT 7 (bF 4 (bT 1 []))))))))))))))) [iD r122, iD r123] [c_T, c_n b1_, c_n b1_, c_n b1_, c_n b1_, c_n b3_, c_T, c_n b5_, c_n b5_, c_n b5_, c_n b5_, c_n b7_, c_T, c_n b9_, c_n b9_, c_n b9_, c_n b9_, c_n b11_, c_T, c_n b13_, c_n b13_, c_n b13_, c_n b13_, c_n b15_, c_T, c_n b17_, c_n b17_, c_n b17_, c_n b17_, c_n b19_, c_T, c_n b21_, c_n b21_, c_n b21_, c_n b21_, c_n bq1_, c_T, c_d bq31_, c_d bq31_, c_d bq31_, c_d bq31_, c_T, c_T, c_n bq33_, c_n bq33_, c_n bq33_, c_n bq33_, c_d bq39_, c_le 3, c_le 2] [k_c fq41_, k_c fq43_] (by kernel_rfl)
    have hq40_ := (if_neg bq39_).symm.trans hq34_
    by_cases bq45_ : ph < (1 : Int)
    · have hq46_ := (if_pos bq45_).symm.trans hq40_
      obtain ⟨r124, fq47_, hq48_⟩ := pullD_elim hq46_
      replace fq47_ := m_91_ok fq47_
      obtain ⟨r125, fq49_, hq50_⟩ := pullD_elim hq48_
      replace fq49_ := m_45_ok fq49_
      obtain rfl := Option.some.inj hq50_
      exact con_pc (op := true) (I := [64, 90, 101]) (sp := chkFigures_sp) 3000 (bT 1 (bF 5 (bT 1 (bF 5 (bT 1 (bF 5 (bT 1 (bF 5 (bT 1 (bF 5 (bT 1 (bF 5 (bT 7 (bF 5 (bT 6 []))))))))))))))) [iD r124, iD r125] [c_T, c_n b1_, c_n b1_, c_n b1_, c_n b1_, c_n b3_, c_T, c_n b5_, c_n b5_, c_n b5_, c_n b5_, c_n b7_, c_T, c_n b9_, c_n b9_, c_n b9_, c_n b9_, c_n b11_, c_T, c_n b13_, c_n b13_, c_n b13_, c_n b13_, c_n b15_, c_T, c_n b17_, c_n b17_, c_n b17_, c_n b17_, c_n b19_, c_T, c_n b21_, c_n b21_, c_n b21_, c_n b21_, c_n bq1_, c_T, c_d bq31_, c_d bq31_, c_d bq31_, c_d bq31_, c_T, c_T, c_n bq33_, c_n bq33_, c_n bq33_, c_n bq33_, c_n bq39_, c_T, c_d bq45_, c_d bq45_, c_d bq45_, c_d bq45_, c_T, c_le 3, c_le 2] [k_c fq47_, k_c fq49_] (by kernel_rfl)
    have hq46_ := (if_neg bq45_).symm.trans hq40_
    by_cases bq51_ : ph > (4196 : Int)
    · have hq52_ := (if_pos bq51_).symm.trans hq46_
      obtain ⟨r126, fq53_, hq54_⟩ := pullD_elim hq52_
      replace fq53_ := m_91_ok fq53_
      obtain ⟨r127, fq55_, hq56_⟩ := pullD_elim hq54_
      replace fq55_ := m_45_ok fq55_
      obtain rfl := Option.some.inj hq56_
      exact con_pc (op := true) (I := [64, 90, 101]) (sp := chkFigures_sp) 3000 (bT 1 (bF 5 (bT 1 (bF 5 (bT 1 (bF 5 (bT 1 (bF 5 (bT 1 (bF 5 (bT 1 (bF 5 (bT 7 (bF 5 (bT 1 (bF 4 (bT 1 []))))))))))))))))) [iD r126, iD r127] [c_T, c_n b1_, c_n b1_, c_n b1_, c_n b1_, c_n b3_, c_T, c_n b5_, c_n b5_, c_n b5_, c_n b5_, c_n b7_, c_T, c_n b9_, c_n b9_, c_n b9_, c_n b9_, c_n b11_, c_T, c_n b13_, c_n b13_, c_n b13_, c_n b13_, c_n b15_, c_T, c_n b17_, c_n b17_, c_n b17_, c_n b17_, c_n b19_, c_T, c_n b21_, c_n b21_, c_n b21_, c_n b21_, c_n bq1_, c_T, c_d bq31_, c_d bq31_, c_d bq31_, c_d bq31_, c_T, c_T, c_n bq33_, c_n bq33_, c_n bq33_, c_n bq33_, c_n bq39_, c_T, c_n bq45_, c_n bq45_, c_n bq45_, c_n bq45_, c_d bq51_, c_le 3, c_le 2] [k_c fq53_, k_c fq55_] (by kernel_rfl)
    have hq52_ := (if_neg bq51_).symm.trans hq46_
    obtain ⟨r128, fq57_, hq58_⟩ := pullD_elim hq52_
    replace fq57_ := m_91_ok fq57_
    obtain ⟨r129, fq59_, hq60_⟩ := pullD_elim hq58_
    replace fq59_ := m_45_ok fq59_
    obtain rfl := Option.some.inj hq60_
    exact con_pc (op := true) (I := [64, 90, 101]) (sp := chkFigures_sp) 3000 (bT 1 (bF 5 (bT 1 (bF 5 (bT 1 (bF 5 (bT 1 (bF 5 (bT 1 (bF 5 (bT 1 (bF 5 (bT 7 (bF 5 (bT 1 (bF 6 [])))))))))))))))) [iD r128, iD r129] [c_T, c_n b1_, c_n b1_, c_n b1_, c_n b1_, c_n b3_, c_T, c_n b5_, c_n b5_, c_n b5_, c_n b5_, c_n b7_, c_T, c_n b9_, c_n b9_, c_n b9_, c_n b9_, c_n b11_, c_T, c_n b13_, c_n b13_, c_n b13_, c_n b13_, c_n b15_, c_T, c_n b17_, c_n b17_, c_n b17_, c_n b17_, c_n b19_, c_T, c_n b21_, c_n b21_, c_n b21_, c_n b21_, c_n bq1_, c_T, c_d bq31_, c_d bq31_, c_d bq31_, c_d bq31_, c_T, c_T, c_n bq33_, c_n bq33_, c_n bq33_, c_n bq33_, c_n bq39_, c_T, c_n bq45_, c_n bq45_, c_n bq45_, c_n bq45_, c_n bq51_, c_F, c_le 3, c_le 2] [k_c fq57_, k_c fq59_] (by kernel_rfl)
  have hq32_ := (if_neg bq31_).symm.trans hq2_
  by_cases bq61_ : uh > (63 : Int)
  · have hq62_ := (if_pos bq61_).symm.trans hq32_
    by_cases bq63_ : pl < (1 : Int)
    · have hq64_ := (if_pos bq63_).symm.trans hq62_
      obtain ⟨r130, fq65_, hq66_⟩ := pullD_elim hq64_
      replace fq65_ := m_91_ok fq65_
      obtain ⟨r131, fq67_, hq68_⟩ := pullD_elim hq66_
      replace fq67_ := m_45_ok fq67_
      obtain rfl := Option.some.inj hq68_
      exact con_pc (op := true) (I := [64, 90, 101]) (sp := chkFigures_sp) 3000 (bT 1 (bF 5 (bT 1 (bF 5 (bT 1 (bF 5 (bT 1 (bF 5 (bT 1 (bF 5 (bT 1 (bF 5 (bT 1 (bF 4 (bT 7 []))))))))))))))) [iD r130, iD r131] [c_T, c_n b1_, c_n b1_, c_n b1_, c_n b1_, c_n b3_, c_T, c_n b5_, c_n b5_, c_n b5_, c_n b5_, c_n b7_, c_T, c_n b9_, c_n b9_, c_n b9_, c_n b9_, c_n b11_, c_T, c_n b13_, c_n b13_, c_n b13_, c_n b13_, c_n b15_, c_T, c_n b17_, c_n b17_, c_n b17_, c_n b17_, c_n b19_, c_T, c_n b21_, c_n b21_, c_n b21_, c_n b21_, c_n bq1_, c_T, c_n bq31_, c_n bq31_, c_n bq31_, c_n bq31_, c_d bq61_, c_T, c_d bq63_, c_d bq63_, c_d bq63_, c_d bq63_, c_T, c_le 3, c_le 2] [k_c fq65_, k_c fq67_] (by kernel_rfl)
    have hq64_ := (if_neg bq63_).symm.trans hq62_
    by_cases bq69_ : pl > (4196 : Int)
    · have hq70_ := (if_pos bq69_).symm.trans hq64_
      obtain ⟨r132, fq71_, hq72_⟩ := pullD_elim hq70_
      replace fq71_ := m_91_ok fq71_
      obtain ⟨r133, fq73_, hq74_⟩ := pullD_elim hq72_
      replace fq73_ := m_45_ok fq73_
      obtain rfl := Option.some.inj hq74_
      exact con_pc (op := true) (I := [64, 90, 101]) (sp := chkFigures_sp) 3000 (bT 1 (bF 5 (bT 1 (bF 5 (bT 1 (bF 5 (bT 1 (bF 5 (bT 1 (bF 5 (bT 1 (bF 5 (bT 1 (bF 4 (bT 2 (bF 4 (bT 1 []))))))))))))))))) [iD r132, iD r133] [c_T, c_n b1_, c_n b1_, c_n b1_, c_n b1_, c_n b3_, c_T, c_n b5_, c_n b5_, c_n b5_, c_n b5_, c_n b7_, c_T, c_n b9_, c_n b9_, c_n b9_, c_n b9_, c_n b11_, c_T, c_n b13_, c_n b13_, c_n b13_, c_n b13_, c_n b15_, c_T, c_n b17_, c_n b17_, c_n b17_, c_n b17_, c_n b19_, c_T, c_n b21_, c_n b21_, c_n b21_, c_n b21_, c_n bq1_, c_T, c_n bq31_, c_n bq31_, c_n bq31_, c_n bq31_, c_d bq61_, c_T, c_n bq63_, c_n bq63_, c_n bq63_, c_n bq63_, c_d bq69_, c_le 3, c_le 2] [k_c fq71_, k_c fq73_] (by kernel_rfl)
    have hq70_ := (if_neg bq69_).symm.trans hq64_
    by_cases bq75_ : ph < (1 : Int)
    · have hq76_ := (if_pos bq75_).symm.trans hq70_
      obtain ⟨r134, fq77_, hq78_⟩ := pullD_elim hq76_
      replace fq77_ := m_91_ok fq77_
      obtain ⟨r135, fq79_, hq80_⟩ := pullD_elim hq78_
      replace fq79_ := m_45_ok fq79_
      obtain rfl := Option.some.inj hq80_
      exact con_pc (op := true) (I := [64, 90, 101]) (sp := chkFigures_sp) 3000 (bT 1 (bF 5 (bT 1 (bF 5 (bT 1 (bF 5 (bT 1 (bF 5 (bT 1 (bF 5 (bT 1 (bF 5 (bT 1 (bF 4 (bT 2 (bF 5 (bT 6 []))))))))))))))))) [iD r134, iD r135] [c_T, c_n b1_, c_n b1_, c_n b1_, c_n b1_, c_n b3_, c_T, c_n b5_, c_n b5_, c_n b5_, c_n b5_, c_n b7_, c_T, c_n b9_, c_n b9_, c_n b9_, c_n b9_, c_n b11_, c_T, c_n b13_, c_n b13_, c_n b13_, c_n b13_, c_n b15_, c_T, c_n b17_, c_n b17_, c_n b17_, c_n b17_, c_n b19_, c_T, c_n b21_, c_n b21_, c_n b21_, c_n b21_, c_n bq1_, c_T, c_n bq31_, c_n bq31_, c_n bq31_, c_n bq31_, c_d bq61_, c_T, c_n bq63_, c_n bq63_, c_n bq63_, c_n bq63_, c_n bq69_, c_T, c_d bq75_, c_d bq75_, c_d bq75_, c_d bq75_, c_T, c_le 3, c_le 2] [k_c fq77_, k_c fq79_] (by kernel_rfl)
    have hq76_ := (if_neg bq75_).symm.trans hq70_
    by_cases bq81_ : ph > (4196 : Int)
    · have hq82_ := (if_pos bq81_).symm.trans hq76_
      obtain ⟨r136, fq83_, hq84_⟩ := pullD_elim hq82_
      replace fq83_ := m_91_ok fq83_
      obtain ⟨r137, fq85_, hq86_⟩ := pullD_elim hq84_
      replace fq85_ := m_45_ok fq85_
      obtain rfl := Option.some.inj hq86_
      exact con_pc (op := true) (I := [64, 90, 101]) (sp := chkFigures_sp) 3000 (bT 1 (bF 5 (bT 1 (bF 5 (bT 1 (bF 5 (bT 1 (bF 5 (bT 1 (bF 5 (bT 1 (bF 5 (bT 1 (bF 4 (bT 2 (bF 5 (bT 1 (bF 4 (bT 1 []))))))))))))))))))) [iD r136, iD r137] [c_T, c_n b1_, c_n b1_, c_n b1_, c_n b1_, c_n b3_, c_T, c_n b5_, c_n b5_, c_n b5_, c_n b5_, c_n b7_, c_T, c_n b9_, c_n b9_, c_n b9_, c_n b9_, c_n b11_, c_T, c_n b13_, c_n b13_, c_n b13_, c_n b13_, c_n b15_, c_T, c_n b17_, c_n b17_, c_n b17_, c_n b17_, c_n b19_, c_T, c_n b21_, c_n b21_, c_n b21_, c_n b21_, c_n bq1_, c_T, c_n bq31_, c_n bq31_, c_n bq31_, c_n bq31_, c_d bq61_, c_T, c_n bq63_, c_n bq63_, c_n bq63_, c_n bq63_, c_n bq69_, c_T, c_n bq75_, c_n bq75_, c_n bq75_, c_n bq75_, c_d bq81_, c_le 3, c_le 2] [k_c fq83_, k_c fq85_] (by kernel_rfl)
    have hq82_ := (if_neg bq81_).symm.trans hq76_
    obtain ⟨r138, fq87_, hq88_⟩ := pullD_elim hq82_
    replace fq87_ := m_91_ok fq87_
    obtain ⟨r139, fq89_, hq90_⟩ := pullD_elim hq88_
    replace fq89_ := m_45_ok fq89_
    obtain rfl := Option.some.inj hq90_
    exact con_pc (op := true) (I := [64, 90, 101]) (sp := chkFigures_sp) 3000 (bT 1 (bF 5 (bT 1 (bF 5 (bT 1 (bF 5 (bT 1 (bF 5 (bT 1 (bF 5 (bT 1 (bF 5 (bT 1 (bF 4 (bT 2 (bF 5 (bT 1 (bF 6 [])))))))))))))))))) [iD r138, iD r139] [c_T, c_n b1_, c_n b1_, c_n b1_, c_n b1_, c_n b3_, c_T, c_n b5_, c_n b5_, c_n b5_, c_n b5_, c_n b7_, c_T, c_n b9_, c_n b9_, c_n b9_, c_n b9_, c_n b11_, c_T, c_n b13_, c_n b13_, c_n b13_, c_n b13_, c_n b15_, c_T, c_n b17_, c_n b17_, c_n b17_, c_n b17_, c_n b19_, c_T, c_n b21_, c_n b21_, c_n b21_, c_n b21_, c_n bq1_, c_T, c_n bq31_, c_n bq31_, c_n bq31_, c_n bq31_, c_d bq61_, c_T, c_n bq63_, c_n bq63_, c_n bq63_, c_n bq63_, c_n bq69_, c_T, c_n bq75_, c_n bq75_, c_n bq75_, c_n bq75_, c_n bq81_, c_F, c_le 3, c_le 2] [k_c fq87_, k_c fq89_] (by kernel_rfl)
  have hq62_ := (if_neg bq61_).symm.trans hq32_
  by_cases bq91_ : pl < (1 : Int)
  · have hq92_ := (if_pos bq91_).symm.trans hq62_
    obtain ⟨r140, fq93_, hq94_⟩ := pullD_elim hq92_
    replace fq93_ := m_91_ok fq93_
    obtain ⟨r141, fq95_, hq96_⟩ := pullD_elim hq94_
    replace fq95_ := m_45_ok fq95_
    obtain rfl := Option.some.inj hq96_
    exact con_pc (op := true) (I := [64, 90, 101]) (sp := chkFigures_sp) 3000 (bT 1 (bF 5 (bT 1 (bF 5 (bT 1 (bF 5 (bT 1 (bF 5 (bT 1 (bF 5 (bT 1 (bF 5 (bT 1 (bF 6 (bT 6 []))))))))))))))) [iD r140, iD r141] [c_T, c_n b1_, c_n b1_, c_n b1_, c_n b1_, c_n b3_, c_T, c_n b5_, c_n b5_, c_n b5_, c_n b5_, c_n b7_, c_T, c_n b9_, c_n b9_, c_n b9_, c_n b9_, c_n b11_, c_T, c_n b13_, c_n b13_, c_n b13_, c_n b13_, c_n b15_, c_T, c_n b17_, c_n b17_, c_n b17_, c_n b17_, c_n b19_, c_T, c_n b21_, c_n b21_, c_n b21_, c_n b21_, c_n bq1_, c_T, c_n bq31_, c_n bq31_, c_n bq31_, c_n bq31_, c_n bq61_, c_F, c_T, c_d bq91_, c_d bq91_, c_d bq91_, c_d bq91_, c_T, c_le 3, c_le 2] [k_c fq93_, k_c fq95_] (by kernel_rfl)
  have hq92_ := (if_neg bq91_).symm.trans hq62_
  by_cases bq97_ : pl > (4196 : Int)
  · have hq98_ := (if_pos bq97_).symm.trans hq92_
    obtain ⟨r142, fq99_, hq100_⟩ := pullD_elim hq98_
    replace fq99_ := m_91_ok fq99_
    obtain ⟨r143, fq101_, hq102_⟩ := pullD_elim hq100_
    replace fq101_ := m_45_ok fq101_
    obtain rfl := Option.some.inj hq102_
    exact con_pc (op := true) (I := [64, 90, 101]) (sp := chkFigures_sp) 3000 (bT 1 (bF 5 (bT 1 (bF 5 (bT 1 (bF 5 (bT 1 (bF 5 (bT 1 (bF 5 (bT 1 (bF 5 (bT 1 (bF 6 (bT 1 (bF 4 (bT 1 []))))))))))))))))) [iD r142, iD r143] [c_T, c_n b1_, c_n b1_, c_n b1_, c_n b1_, c_n b3_, c_T, c_n b5_, c_n b5_, c_n b5_, c_n b5_, c_n b7_, c_T, c_n b9_, c_n b9_, c_n b9_, c_n b9_, c_n b11_, c_T, c_n b13_, c_n b13_, c_n b13_, c_n b13_, c_n b15_, c_T, c_n b17_, c_n b17_, c_n b17_, c_n b17_, c_n b19_, c_T, c_n b21_, c_n b21_, c_n b21_, c_n b21_, c_n bq1_, c_T, c_n bq31_, c_n bq31_, c_n bq31_, c_n bq31_, c_n bq61_, c_F, c_T, c_n bq91_, c_n bq91_, c_n bq91_, c_n bq91_, c_d bq97_, c_le 3, c_le 2] [k_c fq99_, k_c fq101_] (by kernel_rfl)
  have hq98_ := (if_neg bq97_).symm.trans hq92_
  by_cases bq103_ : ph < (1 : Int)
  · have hq104_ := (if_pos bq103_).symm.trans hq98_
    obtain ⟨r144, fq105_, hq106_⟩ := pullD_elim hq104_
    replace fq105_ := m_91_ok fq105_
    obtain ⟨r145, fq107_, hq108_⟩ := pullD_elim hq106_
    replace fq107_ := m_45_ok fq107_
    obtain rfl := Option.some.inj hq108_
    exact con_pc (op := true) (I := [64, 90, 101]) (sp := chkFigures_sp) 3000 (bT 1 (bF 5 (bT 1 (bF 5 (bT 1 (bF 5 (bT 1 (bF 5 (bT 1 (bF 5 (bT 1 (bF 5 (bT 1 (bF 6 (bT 1 (bF 5 (bT 6 []))))))))))))))))) [iD r144, iD r145] [c_T, c_n b1_, c_n b1_, c_n b1_, c_n b1_, c_n b3_, c_T, c_n b5_, c_n b5_, c_n b5_, c_n b5_, c_n b7_, c_T, c_n b9_, c_n b9_, c_n b9_, c_n b9_, c_n b11_, c_T, c_n b13_, c_n b13_, c_n b13_, c_n b13_, c_n b15_, c_T, c_n b17_, c_n b17_, c_n b17_, c_n b17_, c_n b19_, c_T, c_n b21_, c_n b21_, c_n b21_, c_n b21_, c_n bq1_, c_T, c_n bq31_, c_n bq31_, c_n bq31_, c_n bq31_, c_n bq61_, c_F, c_T, c_n bq91_, c_n bq91_, c_n bq91_, c_n bq91_, c_n bq97_, c_T, c_d bq103_, c_d bq103_, c_d bq103_, c_d bq103_, c_T, c_le 3, c_le 2] [k_c fq105_, k_c fq107_] (by kernel_rfl)
  have hq104_ := (if_neg bq103_).symm.trans hq98_
  by_cases bq109_ : ph > (4196 : Int)
  · have hq110_ := (if_pos bq109_).symm.trans hq104_
    obtain ⟨r146, fq111_, hq112_⟩ := pullD_elim hq110_
    replace fq111_ := m_91_ok fq111_
    obtain ⟨r147, fq113_, hq114_⟩ := pullD_elim hq112_
    replace fq113_ := m_45_ok fq113_
    obtain rfl := Option.some.inj hq114_
    exact con_pc (op := true) (I := [64, 90, 101]) (sp := chkFigures_sp) 3000 (bT 1 (bF 5 (bT 1 (bF 5 (bT 1 (bF 5 (bT 1 (bF 5 (bT 1 (bF 5 (bT 1 (bF 5 (bT 1 (bF 6 (bT 1 (bF 5 (bT 1 (bF 4 (bT 1 []))))))))))))))))))) [iD r146, iD r147] [c_T, c_n b1_, c_n b1_, c_n b1_, c_n b1_, c_n b3_, c_T, c_n b5_, c_n b5_, c_n b5_, c_n b5_, c_n b7_, c_T, c_n b9_, c_n b9_, c_n b9_, c_n b9_, c_n b11_, c_T, c_n b13_, c_n b13_, c_n b13_, c_n b13_, c_n b15_, c_T, c_n b17_, c_n b17_, c_n b17_, c_n b17_, c_n b19_, c_T, c_n b21_, c_n b21_, c_n b21_, c_n b21_, c_n bq1_, c_T, c_n bq31_, c_n bq31_, c_n bq31_, c_n bq31_, c_n bq61_, c_F, c_T, c_n bq91_, c_n bq91_, c_n bq91_, c_n bq91_, c_n bq97_, c_T, c_n bq103_, c_n bq103_, c_n bq103_, c_n bq103_, c_d bq109_, c_le 3, c_le 2] [k_c fq111_, k_c fq113_] (by kernel_rfl)
  have hq110_ := (if_neg bq109_).symm.trans hq104_
  obtain ⟨r148, fq115_, hq116_⟩ := pullD_elim hq110_
  replace fq115_ := m_91_ok fq115_
  obtain ⟨r149, fq117_, hq118_⟩ := pullD_elim hq116_
  replace fq117_ := m_45_ok fq117_
  obtain rfl := Option.some.inj hq118_
  exact con_pc (op := true) (I := [64, 90, 101]) (sp := chkFigures_sp) 3000 (bT 1 (bF 5 (bT 1 (bF 5 (bT 1 (bF 5 (bT 1 (bF 5 (bT 1 (bF 5 (bT 1 (bF 5 (bT 1 (bF 6 (bT 1 (bF 5 (bT 1 (bF 6 [])))))))))))))))))) [iD r148, iD r149] [c_T, c_n b1_, c_n b1_, c_n b1_, c_n b1_, c_n b3_, c_T, c_n b5_, c_n b5_, c_n b5_, c_n b5_, c_n b7_, c_T, c_n b9_, c_n b9_, c_n b9_, c_n b9_, c_n b11_, c_T, c_n b13_, c_n b13_, c_n b13_, c_n b13_, c_n b15_, c_T, c_n b17_, c_n b17_, c_n b17_, c_n b17_, c_n b19_, c_T, c_n b21_, c_n b21_, c_n b21_, c_n b21_, c_n bq1_, c_T, c_n bq31_, c_n bq31_, c_n bq31_, c_n bq31_, c_n bq61_, c_F, c_T, c_n bq91_, c_n bq91_, c_n bq91_, c_n bq91_, c_n bq97_, c_T, c_n bq103_, c_n bq103_, c_n bq103_, c_n bq103_, c_n bq109_, c_F, c_le 3, c_le 2] [k_c fq115_, k_c fq117_] (by kernel_rfl)
theorem chkFigures_M_ok (ga pl ph tl th nl nh ul uh : Int) {r : D} (h : chkFigures_M ga pl ph tl th nl nh ul uh = some r) : Con 64 [(shNL7_0 ga pl ph tl th nl nh ul uh)] r := by
  unfold chkFigures_M at h
  by_cases b1_ : ga < (0 : Int)
  · have h2_ := (if_pos b1_).symm.trans h
    exact chkFigures_M_s0_ok ga pl ph tl th nl nh ul uh b1_ h2_
  have h2_ := (if_neg b1_).symm.trans h
  by_cases b3_ : ga > (63 : Int)
  · have h4_ := (if_pos b3_).symm.trans h2_
    exact chkFigures_M_s1_ok ga pl ph tl th nl nh ul uh b1_ b3_ h4_
  have h4_ := (if_neg b3_).symm.trans h2_
  by_cases b5_ : tl < (0 : Int)
  · have h6_ := (if_pos b5_).symm.trans h4_
    exact chkFigures_M_s2_ok ga pl ph tl th nl nh ul uh b1_ b3_ b5_ h6_
  have h6_ := (if_neg b5_).symm.trans h4_
  by_cases b7_ : tl > (63 : Int)
  · have h8_ := (if_pos b7_).symm.trans h6_
    exact chkFigures_M_s3_ok ga pl ph tl th nl nh ul uh b1_ b3_ b5_ b7_ h8_
  have h8_ := (if_neg b7_).symm.trans h6_
  by_cases b9_ : th < (0 : Int)
  · have h10_ := (if_pos b9_).symm.trans h8_
    exact chkFigures_M_s4_ok ga pl ph tl th nl nh ul uh b1_ b3_ b5_ b7_ b9_ h10_
  have h10_ := (if_neg b9_).symm.trans h8_
  by_cases b11_ : th > (63 : Int)
  · have h12_ := (if_pos b11_).symm.trans h10_
    exact chkFigures_M_s5_ok ga pl ph tl th nl nh ul uh b1_ b3_ b5_ b7_ b9_ b11_ h12_
  have h12_ := (if_neg b11_).symm.trans h10_
  by_cases b13_ : nl < (0 : Int)
  · have h14_ := (if_pos b13_).symm.trans h12_
    exact chkFigures_M_s6_ok ga pl ph tl th nl nh ul uh b1_ b3_ b5_ b7_ b9_ b11_ b13_ h14_
  have h14_ := (if_neg b13_).symm.trans h12_
  by_cases b15_ : nl > (63 : Int)
  · have h16_ := (if_pos b15_).symm.trans h14_
    exact chkFigures_M_s7_ok ga pl ph tl th nl nh ul uh b1_ b3_ b5_ b7_ b9_ b11_ b13_ b15_ h16_
  have h16_ := (if_neg b15_).symm.trans h14_
  by_cases b17_ : nh < (0 : Int)
  · have h18_ := (if_pos b17_).symm.trans h16_
    exact chkFigures_M_s8_ok ga pl ph tl th nl nh ul uh b1_ b3_ b5_ b7_ b9_ b11_ b13_ b15_ b17_ h18_
  have h18_ := (if_neg b17_).symm.trans h16_
  by_cases b19_ : nh > (63 : Int)
  · have h20_ := (if_pos b19_).symm.trans h18_
    exact chkFigures_M_s9_ok ga pl ph tl th nl nh ul uh b1_ b3_ b5_ b7_ b9_ b11_ b13_ b15_ b17_ b19_ h20_
  have h20_ := (if_neg b19_).symm.trans h18_
  by_cases b21_ : ul < (0 : Int)
  · have h22_ := (if_pos b21_).symm.trans h20_
    exact chkFigures_M_s10_ok ga pl ph tl th nl nh ul uh b1_ b3_ b5_ b7_ b9_ b11_ b13_ b15_ b17_ b19_ b21_ h22_
  have h22_ := (if_neg b21_).symm.trans h20_
  exact chkFigures_M_s11_ok ga pl ph tl th nl nh ul uh b1_ b3_ b5_ b7_ b9_ b11_ b13_ b15_ b17_ b19_ b21_ h22_
def m_64 (ds : List D) : Option D := pullD (α := Int × Int × Int × Int × Int × Int × Int × Int × Int) (some (.tup ds)) (fun d => ((D.vi (D.at (D.at d 0) 0)), (D.vi (D.at (D.at d 0) 1)), (D.vi (D.at (D.at d 0) 2)), (D.vi (D.at (D.at d 0) 3)), (D.vi (D.at (D.at d 0) 4)), (D.vi (D.at (D.at d 0) 5)), (D.vi (D.at (D.at d 0) 6)), (D.vi (D.at (D.at d 0) 7)), (D.vi (D.at (D.at d 0) 8)))) (fun (ga, pl, ph, tl, th, nl, nh, ul, uh) => .tup [(shNL7_0 ga pl ph tl th nl nh ul uh)]) fun (ga, pl, ph, tl, th, nl, nh, ul, uh) => chkFigures_M ga pl ph tl th nl nh ul uh
theorem m_64_ok {ds : List D} {r : D} (h : m_64 ds = some r) : Con 64 ds r := by
  unfold m_64 at h
  obtain ⟨⟨ga, pl, ph, tl, th, nl, nh, ul, uh⟩, e0, h0⟩ := pullD_elim h
  obtain rfl := tup_inj e0
  exact chkFigures_M_ok ga pl ph tl th nl nh ul uh h0
theorem m_64_eq (ga pl ph tl th nl nh ul uh : Int) : m_64 [(shNL7_0 ga pl ph tl th nl nh ul uh)] = chkFigures_M ga pl ph tl th nl nh ul uh := pullD_some (ga, pl, ph, tl, th, nl, nh, ul, uh) rfl rfl
def chkTimed_sp : List LSpec := []
def chkTimed_M (ga pl ph tl th nl nh ul uh : Int) (n : Int) : Option D := pullD (α := Int) (m_64 [(shNL7_0 ga pl ph tl th nl nh ul uh)]) (fun d => ((D.vi d))) (fun r0 => iD r0) fun r0 => (pullD (α := Int) (m_74 [iD n]) (fun d => ((D.vi d))) (fun r1 => iD r1) fun r1 => (pullD (α := Int) (m_45 [.list 2 [iD r0, iD r1]]) (fun d => ((D.vi d))) (fun r2 => iD r2) fun r2 => (some (iD r2))))
theorem chkTimed_M_ok (ga pl ph tl th nl nh ul uh : Int) (n : Int) {r : D} (h : chkTimed_M ga pl ph tl th nl nh ul uh n = some r) : Con 61 [(shNL7_0 ga pl ph tl th nl nh ul uh), iD n] r := by
  unfold chkTimed_M at h
  obtain ⟨r0, f1_, h2_⟩ := pullD_elim h
  replace f1_ := m_64_ok f1_
  obtain ⟨r1, f3_, h4_⟩ := pullD_elim h2_
  replace f3_ := m_74_ok f3_
  obtain ⟨r2, f5_, h6_⟩ := pullD_elim h4_
  replace f5_ := m_45_ok f5_
  obtain rfl := Option.some.inj h6_
  exact con_pc (op := true) (I := [61]) (sp := chkTimed_sp) 3000 [] [iD r0, iD r1, iD r2] [c_le 1] [k_c f1_, k_c f3_, k_c f5_] (by kernel_rfl)
def m_61 (ds : List D) : Option D := pullD (α := Int × Int × Int × Int × Int × Int × Int × Int × Int × Int) (some (.tup ds)) (fun d => ((D.vi (D.at (D.at d 0) 0)), (D.vi (D.at (D.at d 0) 1)), (D.vi (D.at (D.at d 0) 2)), (D.vi (D.at (D.at d 0) 3)), (D.vi (D.at (D.at d 0) 4)), (D.vi (D.at (D.at d 0) 5)), (D.vi (D.at (D.at d 0) 6)), (D.vi (D.at (D.at d 0) 7)), (D.vi (D.at (D.at d 0) 8)), (D.vi (D.at d 1)))) (fun (ga, pl, ph, tl, th, nl, nh, ul, uh, n) => .tup [(shNL7_0 ga pl ph tl th nl nh ul uh), iD n]) fun (ga, pl, ph, tl, th, nl, nh, ul, uh, n) => chkTimed_M ga pl ph tl th nl nh ul uh n
theorem m_61_ok {ds : List D} {r : D} (h : m_61 ds = some r) : Con 61 ds r := by
  unfold m_61 at h
  obtain ⟨⟨ga, pl, ph, tl, th, nl, nh, ul, uh, n⟩, e0, h0⟩ := pullD_elim h
  obtain rfl := tup_inj e0
  exact chkTimed_M_ok ga pl ph tl th nl nh ul uh n h0
theorem m_61_eq (ga pl ph tl th nl nh ul uh : Int) (n : Int) : m_61 [(shNL7_0 ga pl ph tl th nl nh ul uh), iD n] = chkTimed_M ga pl ph tl th nl nh ul uh n := pullD_some (ga, pl, ph, tl, th, nl, nh, ul, uh, n) rfl rfl
def frontOf_sp : List LSpec := []
def frontOf_M (ga pl ph tl th nl nh ul uh : Int) (n : Int) : Option D := pullD (α := Int) (m_61 [(shNL7_0 ga pl ph tl th nl nh ul uh), iD n]) (fun d => ((D.vi d))) (fun r0 => iD r0) fun r0 => ((if r0 ≠ (0 : Int) then some (.tup [.agg [iD (0 : Int), iD (0 : Int)], iD r0]) else pullD (α := Int × Int) (m_62 [iD (IntKind.i64.wrap (IntKind.i64.wrap ((5 : Int) * IntKind.i64.wrap (nl - th)) * n)), iD (IntKind.i64.wrap (IntKind.i64.wrap ((5 : Int) * IntKind.i64.wrap (nh - tl)) * n)), iD (3 : Int)]) (fun d => ((D.vi (D.at d 0)), (D.vi (D.at d 1)))) (fun (r1, r2) => .agg [iD r1, iD r2]) fun (r1, r2) => (some (.tup [.agg [iD r1, iD r2], iD (0 : Int)]))))
theorem frontOf_M_ok (ga pl ph tl th nl nh ul uh : Int) (n : Int) {r : D} (h : frontOf_M ga pl ph tl th nl nh ul uh n = some r) : Con 35 [(shNL7_0 ga pl ph tl th nl nh ul uh), iD n] r := by
  unfold frontOf_M at h
  obtain ⟨r0, f1_, h2_⟩ := pullD_elim h
  replace f1_ := m_61_ok f1_
  by_cases b3_ : r0 ≠ (0 : Int)
  · have h4_ := (if_pos b3_).symm.trans h2_
    obtain rfl := Option.some.inj h4_
    exact con_pc (op := true) (I := [35]) (sp := frontOf_sp) 3000 (bT 1 []) [iD r0] [c_b b3_] [k_c f1_] (by kernel_rfl)
  have h4_ := (if_neg b3_).symm.trans h2_
  have b5_ : r0 = (0 : Int) := by first | exact b3_ | simpa using b3_
  obtain ⟨⟨r1, r2⟩, f6_, h7_⟩ := pullD_elim h4_
  replace f6_ := m_62_ok f6_
  obtain rfl := Option.some.inj h7_
  exact con_pc (op := true) (I := [35]) (sp := frontOf_sp) 3000 (bF 1 []) [iD r0, .agg [iD r1, iD r2]] [c_bn b5_] [k_c f1_, k_c f6_] (by kernel_rfl)
def m_35 (ds : List D) : Option D := pullD (α := Int × Int × Int × Int × Int × Int × Int × Int × Int × Int) (some (.tup ds)) (fun d => ((D.vi (D.at (D.at d 0) 0)), (D.vi (D.at (D.at d 0) 1)), (D.vi (D.at (D.at d 0) 2)), (D.vi (D.at (D.at d 0) 3)), (D.vi (D.at (D.at d 0) 4)), (D.vi (D.at (D.at d 0) 5)), (D.vi (D.at (D.at d 0) 6)), (D.vi (D.at (D.at d 0) 7)), (D.vi (D.at (D.at d 0) 8)), (D.vi (D.at d 1)))) (fun (ga, pl, ph, tl, th, nl, nh, ul, uh, n) => .tup [(shNL7_0 ga pl ph tl th nl nh ul uh), iD n]) fun (ga, pl, ph, tl, th, nl, nh, ul, uh, n) => frontOf_M ga pl ph tl th nl nh ul uh n
theorem m_35_ok {ds : List D} {r : D} (h : m_35 ds = some r) : Con 35 ds r := by
  unfold m_35 at h
  obtain ⟨⟨ga, pl, ph, tl, th, nl, nh, ul, uh, n⟩, e0, h0⟩ := pullD_elim h
  obtain rfl := tup_inj e0
  exact frontOf_M_ok ga pl ph tl th nl nh ul uh n h0
theorem m_35_eq (ga pl ph tl th nl nh ul uh : Int) (n : Int) : m_35 [(shNL7_0 ga pl ph tl th nl nh ul uh), iD n] = frontOf_M ga pl ph tl th nl nh ul uh n := pullD_some (ga, pl, ph, tl, th, nl, nh, ul, uh, n) rfl rfl
def tailOf_sp : List LSpec := []
def tailOf_M (ga pl ph tl th nl nh ul uh : Int) (n : Int) : Option D := pullD (α := Int) (m_61 [(shNL7_0 ga pl ph tl th nl nh ul uh), iD n]) (fun d => ((D.vi d))) (fun r0 => iD r0) fun r0 => ((if r0 ≠ (0 : Int) then some (.tup [.agg [iD (0 : Int), iD (0 : Int)], iD r0]) else pullD (α := Int × Int) (m_62 [iD (IntKind.i64.wrap (IntKind.i64.wrap (IntKind.i64.wrap (IntKind.i64.wrap ((2 : Int) * ul) - IntKind.i64.wrap ((3 : Int) * th)) + nl) * n)), iD (IntKind.i64.wrap (IntKind.i64.wrap (IntKind.i64.wrap (IntKind.i64.wrap ((2 : Int) * uh) - IntKind.i64.wrap ((3 : Int) * tl)) + nh) * n)), iD (2 : Int)]) (fun d => ((D.vi (D.at d 0)), (D.vi (D.at d 1)))) (fun (r1, r2) => .agg [iD r1, iD r2]) fun (r1, r2) => (some (.tup [.agg [iD r1, iD r2], iD (0 : Int)]))))
theorem tailOf_M_ok (ga pl ph tl th nl nh ul uh : Int) (n : Int) {r : D} (h : tailOf_M ga pl ph tl th nl nh ul uh n = some r) : Con 36 [(shNL7_0 ga pl ph tl th nl nh ul uh), iD n] r := by
  unfold tailOf_M at h
  obtain ⟨r0, f1_, h2_⟩ := pullD_elim h
  replace f1_ := m_61_ok f1_
  by_cases b3_ : r0 ≠ (0 : Int)
  · have h4_ := (if_pos b3_).symm.trans h2_
    obtain rfl := Option.some.inj h4_
    exact con_pc (op := true) (I := [36]) (sp := tailOf_sp) 3000 (bT 1 []) [iD r0] [c_b b3_] [k_c f1_] (by kernel_rfl)
  have h4_ := (if_neg b3_).symm.trans h2_
  have b5_ : r0 = (0 : Int) := by first | exact b3_ | simpa using b3_
  obtain ⟨⟨r1, r2⟩, f6_, h7_⟩ := pullD_elim h4_
  replace f6_ := m_62_ok f6_
  obtain rfl := Option.some.inj h7_
  exact con_pc (op := true) (I := [36]) (sp := tailOf_sp) 3000 (bF 1 []) [iD r0, .agg [iD r1, iD r2]] [c_bn b5_] [k_c f1_, k_c f6_] (by kernel_rfl)
def m_36 (ds : List D) : Option D := pullD (α := Int × Int × Int × Int × Int × Int × Int × Int × Int × Int) (some (.tup ds)) (fun d => ((D.vi (D.at (D.at d 0) 0)), (D.vi (D.at (D.at d 0) 1)), (D.vi (D.at (D.at d 0) 2)), (D.vi (D.at (D.at d 0) 3)), (D.vi (D.at (D.at d 0) 4)), (D.vi (D.at (D.at d 0) 5)), (D.vi (D.at (D.at d 0) 6)), (D.vi (D.at (D.at d 0) 7)), (D.vi (D.at (D.at d 0) 8)), (D.vi (D.at d 1)))) (fun (ga, pl, ph, tl, th, nl, nh, ul, uh, n) => .tup [(shNL7_0 ga pl ph tl th nl nh ul uh), iD n]) fun (ga, pl, ph, tl, th, nl, nh, ul, uh, n) => tailOf_M ga pl ph tl th nl nh ul uh n
theorem m_36_ok {ds : List D} {r : D} (h : m_36 ds = some r) : Con 36 ds r := by
  unfold m_36 at h
  obtain ⟨⟨ga, pl, ph, tl, th, nl, nh, ul, uh, n⟩, e0, h0⟩ := pullD_elim h
  obtain rfl := tup_inj e0
  exact tailOf_M_ok ga pl ph tl th nl nh ul uh n h0
theorem m_36_eq (ga pl ph tl th nl nh ul uh : Int) (n : Int) : m_36 [(shNL7_0 ga pl ph tl th nl nh ul uh), iD n] = tailOf_M ga pl ph tl th nl nh ul uh n := pullD_some (ga, pl, ph, tl, th, nl, nh, ul, uh, n) rfl rfl
end
end Go.Proofs.Ytmohaohdbklkeaa
namespace Go.Proofs.Ytmohaohdbklkeaa
open Go.Ev Go.RowKit
set_option maxRecDepth 100000
set_option maxHeartbeats 8000000
set_option linter.all false
noncomputable section
abbrev shNL8_0 (a0 : Int) (a1 : Int) (a2 : Int) (a3 : Int) : D := .agg [.one (.int .i64 a0), .one (.int .i64 a1), .one (.int .i64 a2), .one (.int .i64 a3)]
def shNL8_0P (d : D) : Int × Int × Int × Int := (D.vi (D.at d 0), D.vi (D.at d 1), D.vi (D.at d 2), D.vi (D.at d 3))
abbrev shNL8_1 (a0 : Int) (a1 : Int) (a2 : Int) (a3 : Int) (a4 : Int) (a5 : Int) (a6 : Int) (a7 : Int) (a8 : Int) : D := .agg [.one (.int .i64 a0), .one (.int .i64 a1), .one (.int .i64 a2), .one (.int .i64 a3), .one (.int .i64 a4), .one (.int .i64 a5), .one (.int .i64 a6), .one (.int .i64 a7), .one (.int .i64 a8)]
def reduced_sp : List LSpec := []
def reduced_M (n d : Int) : Option D := pullD (α := Int) (m_102 [iD n, iD d]) (fun d => ((D.vi d))) (fun r0 => iD r0) fun r0 => (guardP (r0 ≠ (0 : Int)) (some (.agg [iD (IntKind.i64.wrap (n.tdiv r0)), iD (IntKind.i64.wrap (d.tdiv r0))])))
theorem reduced_M_ok (n d : Int) {r : D} (h : reduced_M n d = some r) : Con 93 [iD n, iD d] r := by
  unfold reduced_M at h
  obtain ⟨r0, f1_, h2_⟩ := pullD_elim h
  replace f1_ := m_102_ok f1_
  obtain ⟨f3_, h4_⟩ := guardP_elim h2_
  obtain rfl := Option.some.inj h4_
  exact con_pc (op := true) (I := [93]) (sp := reduced_sp) 3000 [] [iD r0] [c_en f3_, c_en f3_] [k_c f1_] (by kernel_rfl)
def m_93 (ds : List D) : Option D := pullD (α := Int × Int) (some (.tup ds)) (fun d => ((D.vi (D.at d 0)), (D.vi (D.at d 1)))) (fun (n, d) => .tup [iD n, iD d]) fun (n, d) => reduced_M n d
theorem m_93_ok {ds : List D} {r : D} (h : m_93 ds = some r) : Con 93 ds r := by
  unfold m_93 at h
  obtain ⟨⟨n, d⟩, e0, h0⟩ := pullD_elim h
  obtain rfl := tup_inj e0
  exact reduced_M_ok n d h0
theorem m_93_eq (n d : Int) : m_93 [iD n, iD d] = reduced_M n d := pullD_some (n, d) rfl rfl
def product_sp : List LSpec := []
def product_M (n d m e : Int) : Option D := pullD (α := Int × Int) (m_93 [iD (IntKind.i64.wrap (n * m)), iD (IntKind.i64.wrap (d * e))]) (fun d => ((D.vi (D.at d 0)), (D.vi (D.at d 1)))) (fun (r0, r1) => .agg [iD r0, iD r1]) fun (r0, r1) => (some (.agg [iD r0, iD r1]))
theorem product_M_ok (n d m e : Int) {r : D} (h : product_M n d m e = some r) : Con 88 [.agg [iD n, iD d], .agg [iD m, iD e]] r := by
  unfold product_M at h
  obtain ⟨⟨r0, r1⟩, f1_, h2_⟩ := pullD_elim h
  replace f1_ := m_93_ok f1_
  obtain rfl := Option.some.inj h2_
  exact con_pc (op := true) (I := [88]) (sp := product_sp) 3000 [] [.agg [iD r0, iD r1]] [] [k_c f1_] (by kernel_rfl)
def m_88 (ds : List D) : Option D := pullD (α := Int × Int × Int × Int) (some (.tup ds)) (fun d => ((D.vi (D.at (D.at d 0) 0)), (D.vi (D.at (D.at d 0) 1)), (D.vi (D.at (D.at d 1) 0)), (D.vi (D.at (D.at d 1) 1)))) (fun (n, d, m, e) => .tup [.agg [iD n, iD d], .agg [iD m, iD e]]) fun (n, d, m, e) => product_M n d m e
theorem m_88_ok {ds : List D} {r : D} (h : m_88 ds = some r) : Con 88 ds r := by
  unfold m_88 at h
  obtain ⟨⟨n, d, m, e⟩, e0, h0⟩ := pullD_elim h
  obtain rfl := tup_inj e0
  exact product_M_ok n d m e h0
theorem m_88_eq (n d m e : Int) : m_88 [.agg [iD n, iD d], .agg [iD m, iD e]] = product_M n d m e := pullD_some (n, d, m, e) rfl rfl
def tooLarge_sp : List LSpec := []
def tooLarge_M (n d : Int) : Option D := some (.one (.bool (decide ((if d > n then d else n) > (1000000000 : Int)))))
theorem tooLarge_M_ok (n d : Int) {r : D} (h : tooLarge_M n d = some r) : Con 89 [.agg [iD n, iD d]] r := by
  unfold tooLarge_M at h
  obtain rfl := Option.some.inj h
  exact con_pc (op := true) (I := [89]) (sp := tooLarge_sp) 3000 [] [] [] [] (by kernel_rfl)
def m_89 (ds : List D) : Option D := pullD (α := Int × Int) (some (.tup ds)) (fun d => ((D.vi (D.at (D.at d 0) 0)), (D.vi (D.at (D.at d 0) 1)))) (fun (n, d) => .tup [.agg [iD n, iD d]]) fun (n, d) => tooLarge_M n d
theorem m_89_ok {ds : List D} {r : D} (h : m_89 ds = some r) : Con 89 ds r := by
  unfold m_89 at h
  obtain ⟨⟨n, d⟩, e0, h0⟩ := pullD_elim h
  obtain rfl := tup_inj e0
  exact tooLarge_M_ok n d h0
theorem m_89_eq (n d : Int) : m_89 [.agg [iD n, iD d]] = tooLarge_M n d := pullD_some (n, d) rfl rfl
def scaleOf_x7_0 : LExit := ⟨some 0, [.cval 6 0, .cval 6 1, .cval 6 2, .cval 6 3], (8 :: (List.range' 22 16))⟩
def scaleOf_sp : List LSpec := [⟨63, 7, [scaleOf_x7_0]⟩]
def scaleOf_L7_E (re fa fb fc fd : Int) (k : Nat) (c : List D) (x0 : Int) : List AV × AHeap := ([.agg [.pure (.int .i64 re), .pure (.int .i64 fa), .pure (.int .i64 fb), .pure (.int .i64 fc), .pure (.int .i64 fd), .dsl 0], .ptr 1 0, .ptr 2 0, .pure (.int .i64 (0 : Int)), .pure (.int .i64 x0), .ptr 3 0, .ptr 4 0, .pure (.tuple #[]), .pure (.tuple #[]), .agg [.pure (.int .i64 re), .pure (.int .i64 fa), .pure (.int .i64 fb), .pure (.int .i64 fc), .pure (.int .i64 fd), .dsl 0], .pure (.int .i64 x0), .pure (.int .i64 x0), .pure (.bool (x0 != (0 : Int))), .pure (.tuple #[]), .pure (.tuple #[]), .pure (.agg #[.int .i64 (1 : Int), .int .i64 (1 : Int)]), .pure (.agg #[.int .i64 (1 : Int), .int .i64 (1 : Int)]), .pure (.agg #[.int .i64 (1 : Int), .int .i64 (1 : Int)]), .pure (.agg #[.int .i64 (1 : Int), .int .i64 (1 : Int), .int .i64 (1 : Int), .int .i64 (1 : Int)]), .ptr 1 5, .dsl 0, .pure (.int .i64 (k : Int)), .pure (.int .i64 (0 : Int)), .pure (.tuple #[]), .pure (.tuple #[]), .pure (.tuple #[]), .pure (.tuple #[]), .pure (.tuple #[]), .pure (.tuple #[]), .pure (.tuple #[]), .pure (.tuple #[]), .pure (.tuple #[]), .pure (.tuple #[]), .pure (.tuple #[]), .pure (.tuple #[]), .pure (.tuple #[]), .pure (.tuple #[]), .pure (.tuple #[]), .pure (.tuple #[]), .pure (.tuple #[]), .pure (.tuple #[]), .pure (.tuple #[]), .pure (.tuple #[]), .pure (.tuple #[]), .pure (.tuple #[]), .pure (.tuple #[]), .pure (.tuple #[]), .pure (.tuple #[])], [(4, { cells := [.pure (.int .i64 (1 : Int)), .pure (.int .i64 (1 : Int)), .pure (.int .i64 (1 : Int)), .pure (.int .i64 (1 : Int))], opn := none, kind := .cells }), (3, { cells := [.pure (.int .i64 (1 : Int)), .pure (.int .i64 (1 : Int))], opn := none, kind := .cells }), (2, { cells := [.pure (.int .i64 (0 : Int)), .pure (.int .i64 (0 : Int)), .pure (.int .i64 (0 : Int)), .pure (.int .i64 (0 : Int))], opn := none, kind := .cells }), (1, { cells := [.pure (.int .i64 re), .pure (.int .i64 fa), .pure (.int .i64 fb), .pure (.int .i64 fc), .pure (.int .i64 fd), .dsl 0], opn := none, kind := .cells }), (0, { cells := [], opn := none, kind := .deep k c })])
def scaleOf_L7_A : LoopAt := ⟨63, loopAt Try.prog 63 0, 5, 26, 4, noFrame⟩
theorem scaleOf_L7_ok : (scaleOf_L7_A).OK := ⟨by show 5 ≤ 26; decide, by show 4 ≤ 5; decide, by kernel_rfl, rfl⟩
def scaleOf_L7_gs (re fa fb fc fd : Int) (k : Nat) (c : List D) (x0 : Int) : Go.Ev.Rd → Option GS
  | .next 0 ds => ghost [.val 22, .cval 6 0, .cval 6 1, .cval 6 2, .cval 6 3] (8 :: (List.range' 23 15)) (scaleOf_L7_E re fa fb fc fd k c x0).1 (scaleOf_L7_E re fa fb fc fd k c x0).2 5 ds
  | .out 0 ds => ghost scaleOf_x7_0.live scaleOf_x7_0.junk (scaleOf_L7_E re fa fb fc fd k c x0).1 (scaleOf_L7_E re fa fb fc fd k c x0).2 5 ds
  | _ => none
def scaleOf_L7_ex : Nat → Option Nat
  | 0 => scaleOf_x7_0.ex
  | _ => none
def scaleOf_L7_ax : Go.Ev.Rd → AX
  | .next _ _ => .normal
  | .out j _ => axOf (scaleOf_L7_ex j)
def scaleOf_L7_S0 (re fa fb fc fd : Int) (k : Nat) (c : List D) (x0 : Int) (ds : List D) : Option Go.Ev.Rd := pullD (α := Int × Int × Int × Int × Int) (some (.tup ds)) (fun d => ((D.vi (D.at d 0)), (D.vi (D.at d 1)), (D.vi (D.at d 2)), (D.vi (D.at d 3)), (D.vi (D.at d 4)))) (fun (s22, s6_0, s6_1, s6_2, s6_3) => .tup [iD s22, iD s6_0, iD s6_1, iD s6_2, iD s6_3]) fun (s22, s6_0, s6_1, s6_2, s6_3) => ((if s22 < (k : Int) then guardP ((0 : Int) ≤ s22 ∧ s22.toNat < k) (pullD (readD c (s22.toNat * 4) 4 true) shNL8_0P (fun (v0, v1, v2, v3) => (shNL8_0 v0 v1 v2 v3)) fun (v0, v1, v2, v3) => (pullD (α := Int × Int) (m_88 [.agg [iD s6_0, iD s6_1], .agg [iD v0, iD v1]]) (fun d => ((D.vi (D.at d 0)), (D.vi (D.at d 1)))) (fun (r4, r5) => .agg [iD r4, iD r5]) fun (r4, r5) => (pullD (α := Int × Int) (m_88 [.agg [iD s6_2, iD s6_3], .agg [iD v2, iD v3]]) (fun d => ((D.vi (D.at d 0)), (D.vi (D.at d 1)))) (fun (r6, r7) => .agg [iD r6, iD r7]) fun (r6, r7) => (some (.next 0 [iD (IntKind.i64.wrap (s22 + (1 : Int))), iD r4, iD r5, iD r6, iD r7]))))) else some (.out 0 [iD s6_0, iD s6_1, iD s6_2, iD s6_3])))
def scaleOf_L7_S (re fa fb fc fd : Int) (k : Nat) (c : List D) (x0 : Int) : Go.Ev.Rd → Option Go.Ev.Rd
  | .next 0 ds => scaleOf_L7_S0 re fa fb fc fd k c x0 ds
  | _ => none
theorem scaleOf_L7_S_0 (re fa fb fc fd : Int) (k : Nat) (c : List D) (x0 : Int) (ds : List D) : scaleOf_L7_S re fa fb fc fd k c x0 (.next 0 ds) = scaleOf_L7_S0 re fa fb fc fd k c x0 ds := rfl
theorem scaleOf_L7_S_ok (re fa fb fc fd : Int) (k : Nat) (c : List D) (x0 : Int) : ∀ s_ t_, scaleOf_L7_S re fa fb fc fd k c x0 s_ = some t_ → Step (ctx [63] scaleOf_sp) Tabs scaleOf_L7_A (stateOf (scaleOf_L7_gs re fa fb fc fd k c x0 s_)) (stateOf (scaleOf_L7_gs re fa fb fc fd k c x0 t_)) (scaleOf_L7_ax t_) ∧ EndOK scaleOf_L7_A.nx scaleOf_L7_A.low (scaleOf_L7_gs re fa fb fc fd k c x0) t_
  | .next 0 ds, t_, h => by
    have h_ : scaleOf_L7_S0 re fa fb fc fd k c x0 ds = some t_ := h
    clear h
    unfold scaleOf_L7_S0 at h_
    obtain ⟨⟨s22, s6_0, s6_1, s6_2, s6_3⟩, e0, h0⟩ := pullD_elim h_
    clear h_
    obtain rfl := tup_inj e0
    by_cases b1_ : s22 < (k : Int)
    · have h2_ := (if_pos b1_).symm.trans h0
      obtain ⟨f3_, h4_⟩ := guardP_elim h2_
      obtain ⟨⟨v0, v1, v2, v3⟩, f5_, h6_⟩ := pullD_elim h4_
      replace f5_ := readD_elim f5_
      obtain ⟨⟨r4, r5⟩, f7_, h8_⟩ := pullD_elim h6_
      replace f7_ := m_88_ok f7_
      obtain ⟨⟨r6, r7⟩, f9_, h10_⟩ := pullD_elim h8_
      replace f9_ := m_88_ok f9_
      obtain rfl := Option.some.inj h10_
      exact ⟨step_pc 3000 (bT 1 []) [(shNL8_0 v0 v1 v2 v3), .agg [iD r4, iD r5], .agg [iD r6, iD r7]] [c_d b1_, c_f f3_, c_f f5_] [k_c f7_, k_c f9_] _ rfl (by kernel_rfl) (by kernel_rfl) (by kernel_rfl) (by kernel_rfl) (by kernel_rfl) (by kernel_rfl), trivial⟩
    have h2_ := (if_neg b1_).symm.trans h0
    obtain rfl := Option.some.inj h2_
    exact ⟨step_pc 3000 (bF 1 []) [] [c_n b1_] [] _ rfl (by kernel_rfl) (by kernel_rfl) (by kernel_rfl) (by kernel_rfl) (by kernel_rfl) (by kernel_rfl), by kernel_rfl, by kernel_rfl⟩
  | .next (_ + 1) _, _, h => by cases h
  | .out _ _, _, h => by cases h
theorem scaleOf_L7_go (re fa fb fc fd : Int) (k : Nat) (c : List D) (x0 : Int) {q : Nat} {ds : List D} {j : Nat} {es : List D} (h : runR (scaleOf_L7_S re fa fb fc fd k c x0) (.next q ds) = some (.out j es)) : Runs (ctx [63] scaleOf_sp) Tabs scaleOf_L7_A (stateOf (scaleOf_L7_gs re fa fb fc fd k c x0 (.next q ds))) (stateOf (scaleOf_L7_gs re fa fb fc fd k c x0 (.out j es))) (scaleOf_L7_ax (.out j es)) ∧ (nxtOf (scaleOf_L7_gs re fa fb fc fd k c x0 (.out j es)), lowGS (scaleOf_L7_gs re fa fb fc fd k c x0 (.out j es))) = (scaleOf_L7_A.nx, scaleOf_L7_A.low) :=
  runs_of' (good true _ _) scaleOf_L7_ok (ax := scaleOf_L7_ax) (fun _ _ => rfl) (fun _ _ => axOf_end _) (scaleOf_L7_S_ok re fa fb fc fd k c x0) h
theorem scaleOf_L7_in0 (re fa fb fc fd : Int) (k : Nat) (c : List D) (x0 : Int) {es : List D} (h : runR (scaleOf_L7_S re fa fb fc fd k c x0) (.next 0 [iD ((0 : Int)), iD ((1 : Int)), iD ((1 : Int)), iD ((1 : Int)), iD ((1 : Int))]) = some (.out 0 es)) : LoopC (loopAt Try.prog 63 0) (scaleOf_L7_E re fa fb fc fd k c x0) 5 noFrame scaleOf_x7_0 es :=
  have r := scaleOf_L7_go re fa fb fc fd k c x0 h
  loopin_as rfl (loop_in (l := scaleOf_L7_A) (E := (scaleOf_L7_E re fa fb fc fd k c x0)) (S := stateOf (scaleOf_L7_gs re fa fb fc fd k c x0 (.next 0 [iD ((0 : Int)), iD ((1 : Int)), iD ((1 : Int)), iD ((1 : Int)), iD ((1 : Int))]))) (ns := nsOf (scaleOf_L7_gs re fa fb fc fd k c x0 (.next 0 [iD ((0 : Int)), iD ((1 : Int)), iD ((1 : Int)), iD ((1 : Int)), iD ((1 : Int))]))) scaleOf_L7_ok r.1 r.2 (by kernel_rfl) (by kernel_rfl) (by kernel_rfl) (by kernel_rfl))
def scaleOf_M (re fa fb fc fd : Int) (k : Nat) (c : List D) : Option D := pullD (α := Int) (m_46 [.agg [iD re, iD fa, iD fb, iD fc, iD fd, .list k c]]) (fun d => ((D.vi d))) (fun r0 => iD r0) fun r0 => ((if r0 ≠ (0 : Int) then some (.tup [(shNL8_0 (0 : Int) (0 : Int) (0 : Int) (0 : Int)), iD r0]) else bindL (runR (scaleOf_L7_S re fa fb fc fd k c r0) (.next 0 [iD ((0 : Int)), iD ((1 : Int)), iD ((1 : Int)), iD ((1 : Int)), iD ((1 : Int))])) fun j ds => (if j = 0 then pullD (α := Int × Int × Int × Int) (some (.tup ds)) (fun d => ((D.vi (D.at d 0)), (D.vi (D.at d 1)), (D.vi (D.at d 2)), (D.vi (D.at d 3)))) (fun (l1, l2, l3, l4) => .tup [iD l1, iD l2, iD l3, iD l4]) fun (l1, l2, l3, l4) => (pullD (α := Bool) (m_89 [.agg [iD l1, iD l2]]) (fun d => ((D.vb d))) (fun r5 => .one (.bool r5)) fun r5 => ((if (r5) = true then some (.tup [(shNL8_0 (0 : Int) (0 : Int) (0 : Int) (0 : Int)), iD (8 : Int)]) else pullD (α := Bool) (m_89 [.agg [iD l3, iD l4]]) (fun d => ((D.vb d))) (fun r6 => .one (.bool r6)) fun r6 => ((if (r6) = true then some (.tup [(shNL8_0 (0 : Int) (0 : Int) (0 : Int) (0 : Int)), iD (8 : Int)]) else some (.tup [(shNL8_0 l1 l2 l3 l4), iD (0 : Int)])))))) else none)))
theorem scaleOf_M_ok (re fa fb fc fd : Int) (k : Nat) (c : List D) {r : D} (h : scaleOf_M re fa fb fc fd k c = some r) : Con 63 [.agg [iD re, iD fa, iD fb, iD fc, iD fd, .list k c]] r := by
  unfold scaleOf_M at h
  obtain ⟨r0, f1_, h2_⟩ := pullD_elim h
  replace f1_ := m_46_ok f1_
  by_cases b3_ : r0 ≠ (0 : Int)
  · have h4_ := (if_pos b3_).symm.trans h2_
    obtain rfl := Option.some.inj h4_
    exact con_pc (op := true) (I := [63]) (sp := scaleOf_sp) 3000 (bT 1 []) [iD r0] [c_b b3_] [k_c f1_] (by kernel_rfl)
  have h4_ := (if_neg b3_).symm.trans h2_
  have b5_ : r0 = (0 : Int) := by first | exact b3_ | simpa using b3_
  obtain ⟨j, ds, e6_, h7_⟩ := bindL_elim h4_
  by_cases j8_ : j = 0
  · have h11_ := (if_pos j8_).symm.trans h7_
    clear h7_
    subst j8_
    obtain ⟨⟨l1, l2, l3, l4⟩, e9_, h12_⟩ := pullD_elim h11_
    clear h11_
    obtain rfl := tup_inj e9_
    have k10_ := scaleOf_L7_in0 re fa fb fc fd k c r0 e6_
    obtain ⟨r5, f13_, h14_⟩ := pullD_elim h12_
    replace f13_ := m_89_ok f13_
    by_cases b15_ : (r5) = true
    · have h16_ := (if_pos b15_).symm.trans h14_
      obtain rfl := Option.some.inj h16_
      exact con_pc (op := true) (I := [63]) (sp := scaleOf_sp) 3000 (bF 1 (bT 5 [])) [iD r0, .tup [iD (Int.ofNat 0), iD l1, iD l2, iD l3, iD l4], .one (.bool r5)] [c_bn b5_, c_q b15_, c_q b15_, c_q b15_, c_q b15_, c_T] [k_c f1_, k_l k10_ (bT 5 []) [.tup [iD (Int.ofNat 0), iD l1, iD l2, iD l3, iD l4], .one (.bool r5)] [.one (.bool r5)], k_c f13_] (by kernel_rfl)
    have h16_ := (if_neg b15_).symm.trans h14_
    have b17_ : (r5) = false := by first | exact b15_ | simpa using b15_
    obtain ⟨r6, f18_, h19_⟩ := pullD_elim h16_
    replace f18_ := m_89_ok f18_
    by_cases b20_ : (r6) = true
    · have h21_ := (if_pos b20_).symm.trans h19_
      obtain rfl := Option.some.inj h21_
      exact con_pc (op := true) (I := [63]) (sp := scaleOf_sp) 3000 (bF 5 (bT 1 [])) [iD r0, .tup [iD (Int.ofNat 0), iD l1, iD l2, iD l3, iD l4], .one (.bool r5), .one (.bool r6)] [c_bn b5_, c_q b17_, c_q b17_, c_q b17_, c_q b17_, c_q b20_] [k_c f1_, k_l k10_ (bF 4 (bT 1 [])) [.tup [iD (Int.ofNat 0), iD l1, iD l2, iD l3, iD l4], .one (.bool r5), .one (.bool r6)] [.one (.bool r5), .one (.bool r6)], k_c f13_, k_c f18_] (by kernel_rfl)
    have h21_ := (if_neg b20_).symm.trans h19_
    have b22_ : (r6) = false := by first | exact b20_ | simpa using b20_
    obtain rfl := Option.some.inj h21_
    exact con_pc (op := true) (I := [63]) (sp := scaleOf_sp) 3000 (bF 6 []) [iD r0, .tup [iD (Int.ofNat 0), iD l1, iD l2, iD l3, iD l4], .one (.bool r5), .one (.bool r6)] [c_bn b5_, c_q b17_, c_q b17_, c_q b17_, c_q b17_, c_q b22_] [k_c f1_, k_l k10_ (bF 5 []) [.tup [iD (Int.ofNat 0), iD l1, iD l2, iD l3, iD l4], .one (.bool r5), .one (.bool r6)] [.one (.bool r5), .one (.bool r6)], k_c f13_, k_c f18_] (by kernel_rfl)
  have h23_ := (if_neg j8_).symm.trans h7_
  clear h7_
  cases h23_
def m_63 (ds : List D) : Option D := pullD (α := Int × Int × Int × Int × Int × Nat × (List D)) (some (.tup ds)) (fun d => ((D.vi (D.at (D.at d 0) 0)), (D.vi (D.at (D.at d 0) 1)), (D.vi (D.at (D.at d 0) 2)), (D.vi (D.at (D.at d 0) 3)), (D.vi (D.at (D.at d 0) 4)), (D.ln (D.at (D.at d 0) 5)), (D.lc (D.at (D.at d 0) 5)))) (fun (re, fa, fb, fc, fd, k, c) => .tup [.agg [iD re, iD fa, iD fb, iD fc, iD fd, .list k c]]) fun (re, fa, fb, fc, fd, k, c) => scaleOf_M re fa fb fc fd k c
theorem m_63_ok {ds : List D} {r : D} (h : m_63 ds = some r) : Con 63 ds r := by
  unfold m_63 at h
  obtain ⟨⟨re, fa, fb, fc, fd, k, c⟩, e0, h0⟩ := pullD_elim h
  obtain rfl := tup_inj e0
  exact scaleOf_M_ok re fa fb fc fd k c h0
theorem m_63_eq (re fa fb fc fd : Int) (k : Nat) (c : List D) : m_63 [.agg [iD re, iD fa, iD fb, iD fc, iD fd, .list k c]] = scaleOf_M re fa fb fc fd k c := pullD_some (re, fa, fb, fc, fd, k, c) rfl rfl
def voltOf_sp : List LSpec := []
def voltOf_M (re fa fb fc fd : Int) (k : Nat) (c : List D) (ga pl ph tl th nl nh ul uh : Int) : Option D := pullD (α := Int × Int × Int × Int × Int) (m_63 [.agg [iD re, iD fa, iD fb, iD fc, iD fd, .list k c]]) (fun d => ((D.vi (D.at (D.at d 0) 0)), (D.vi (D.at (D.at d 0) 1)), (D.vi (D.at (D.at d 0) 2)), (D.vi (D.at (D.at d 0) 3)), (D.vi (D.at d 1)))) (fun (r0, r1, r2, r3, r4) => .tup [(shNL8_0 r0 r1 r2 r3), iD r4]) fun (r0, r1, r2, r3, r4) => (pullD (α := Int) (m_64 [(shNL8_1 ga pl ph tl th nl nh ul uh)]) (fun d => ((D.vi d))) (fun r5 => iD r5) fun r5 => (pullD (α := Int) (m_45 [.list 2 [iD r4, iD r5]]) (fun d => ((D.vi d))) (fun r6 => iD r6) fun r6 => ((if r6 ≠ (0 : Int) then some (.tup [.agg [iD (0 : Int), iD (0 : Int)], iD r6]) else pullD (α := Int) (m_65 [iD (IntKind.i64.wrap (pl * r0)), iD r1]) (fun d => ((D.vi d))) (fun r7 => iD r7) fun r7 => (pullD (α := Int) (m_66 [iD (IntKind.i64.wrap (ph * r2)), iD r3]) (fun d => ((D.vi d))) (fun r8 => iD r8) fun r8 => (some (.tup [.agg [iD r7, iD r8], iD (0 : Int)])))))))
theorem voltOf_M_ok (re fa fb fc fd : Int) (k : Nat) (c : List D) (ga pl ph tl th nl nh ul uh : Int) {r : D} (h : voltOf_M re fa fb fc fd k c ga pl ph tl th nl nh ul uh = some r) : Con 37 [.agg [iD re, iD fa, iD fb, iD fc, iD fd, .list k c], (shNL8_1 ga pl ph tl th nl nh ul uh)] r := by
  unfold voltOf_M at h
  obtain ⟨⟨r0, r1, r2, r3, r4⟩, f1_, h2_⟩ := pullD_elim h
  replace f1_ := m_63_ok f1_
  obtain ⟨r5, f3_, h4_⟩ := pullD_elim h2_
  replace f3_ := m_64_ok f3_
  obtain ⟨r6, f5_, h6_⟩ := pullD_elim h4_
  replace f5_ := m_45_ok f5_
  by_cases b7_ : r6 ≠ (0 : Int)
  · have h8_ := (if_pos b7_).symm.trans h6_
    obtain rfl := Option.some.inj h8_
    exact con_pc (op := true) (I := [37]) (sp := voltOf_sp) 3000 (bT 1 []) [.tup [(shNL8_0 r0 r1 r2 r3), iD r4], iD r5, iD r6] [c_le 1, c_b b7_] [k_c f1_, k_c f3_, k_c f5_] (by kernel_rfl)
  have h8_ := (if_neg b7_).symm.trans h6_
  have b9_ : r6 = (0 : Int) := by first | exact b7_ | simpa using b7_
  obtain ⟨r7, f10_, h11_⟩ := pullD_elim h8_
  replace f10_ := m_65_ok f10_
  obtain ⟨r8, f12_, h13_⟩ := pullD_elim h11_
  replace f12_ := m_66_ok f12_
  obtain rfl := Option.some.inj h13_
  exact con_pc (op := true) (I := [37]) (sp := voltOf_sp) 3000 (bF 1 []) [.tup [(shNL8_0 r0 r1 r2 r3), iD r4], iD r5, iD r6, iD r7, iD r8] [c_le 1, c_bn b9_] [k_c f1_, k_c f3_, k_c f5_, k_c f10_, k_c f12_] (by kernel_rfl)
def m_37 (ds : List D) : Option D := pullD (α := Int × Int × Int × Int × Int × Nat × (List D) × Int × Int × Int × Int × Int × Int × Int × Int × Int) (some (.tup ds)) (fun d => ((D.vi (D.at (D.at d 0) 0)), (D.vi (D.at (D.at d 0) 1)), (D.vi (D.at (D.at d 0) 2)), (D.vi (D.at (D.at d 0) 3)), (D.vi (D.at (D.at d 0) 4)), (D.ln (D.at (D.at d 0) 5)), (D.lc (D.at (D.at d 0) 5)), (D.vi (D.at (D.at d 1) 0)), (D.vi (D.at (D.at d 1) 1)), (D.vi (D.at (D.at d 1) 2)), (D.vi (D.at (D.at d 1) 3)), (D.vi (D.at (D.at d 1) 4)), (D.vi (D.at (D.at d 1) 5)), (D.vi (D.at (D.at d 1) 6)), (D.vi (D.at (D.at d 1) 7)), (D.vi (D.at (D.at d 1) 8)))) (fun (re, fa, fb, fc, fd, k, c, ga, pl, ph, tl, th, nl, nh, ul, uh) => .tup [.agg [iD re, iD fa, iD fb, iD fc, iD fd, .list k c], (shNL8_1 ga pl ph tl th nl nh ul uh)]) fun (re, fa, fb, fc, fd, k, c, ga, pl, ph, tl, th, nl, nh, ul, uh) => voltOf_M re fa fb fc fd k c ga pl ph tl th nl nh ul uh
theorem m_37_ok {ds : List D} {r : D} (h : m_37 ds = some r) : Con 37 ds r := by
  unfold m_37 at h
  obtain ⟨⟨re, fa, fb, fc, fd, k, c, ga, pl, ph, tl, th, nl, nh, ul, uh⟩, e0, h0⟩ := pullD_elim h
  obtain rfl := tup_inj e0
  exact voltOf_M_ok re fa fb fc fd k c ga pl ph tl th nl nh ul uh h0
theorem m_37_eq (re fa fb fc fd : Int) (k : Nat) (c : List D) (ga pl ph tl th nl nh ul uh : Int) : m_37 [.agg [iD re, iD fa, iD fb, iD fc, iD fd, .list k c], (shNL8_1 ga pl ph tl th nl nh ul uh)] = voltOf_M re fa fb fc fd k c ga pl ph tl th nl nh ul uh := pullD_some (re, fa, fb, fc, fd, k, c, ga, pl, ph, tl, th, nl, nh, ul, uh) rfl rfl
def inside_sp : List LSpec := []
def inside_M (a b c d : Int) : Option D := (if c ≤ a then some (.one (.bool (decide (b ≤ d)))) else some (.one (.bool false)))
theorem inside_M_ok (a b c d : Int) {r : D} (h : inside_M a b c d = some r) : Con 34 [.agg [iD a, iD b], .agg [iD c, iD d]] r := by
  unfold inside_M at h
  by_cases b1_ : c ≤ a
  · have h2_ := (if_pos b1_).symm.trans h
    obtain rfl := Option.some.inj h2_
    exact con_pc (op := true) (I := [34]) (sp := inside_sp) 3000 (bT 6 []) [] [c_d b1_, c_d b1_, c_d b1_, c_d b1_, c_d b1_, c_d b1_] [] (by kernel_rfl)
  have h2_ := (if_neg b1_).symm.trans h
  obtain rfl := Option.some.inj h2_
  exact con_pc (op := true) (I := [34]) (sp := inside_sp) 3000 (bF 6 []) [] [c_n b1_, c_n b1_, c_n b1_, c_n b1_, c_n b1_, c_n b1_] [] (by kernel_rfl)
def m_34 (ds : List D) : Option D := pullD (α := Int × Int × Int × Int) (some (.tup ds)) (fun d => ((D.vi (D.at (D.at d 0) 0)), (D.vi (D.at (D.at d 0) 1)), (D.vi (D.at (D.at d 1) 0)), (D.vi (D.at (D.at d 1) 1)))) (fun (a, b, c, d) => .tup [.agg [iD a, iD b], .agg [iD c, iD d]]) fun (a, b, c, d) => inside_M a b c d
theorem m_34_ok {ds : List D} {r : D} (h : m_34 ds = some r) : Con 34 ds r := by
  unfold m_34 at h
  obtain ⟨⟨a, b, c, d⟩, e0, h0⟩ := pullD_elim h
  obtain rfl := tup_inj e0
  exact inside_M_ok a b c d h0
theorem m_34_eq (a b c d : Int) : m_34 [.agg [iD a, iD b], .agg [iD c, iD d]] = inside_M a b c d := pullD_some (a, b, c, d) rfl rfl
end
end Go.Proofs.Ytmohaohdbklkeaa
namespace Go.Proofs.Ytmohaohdbklkeaa
open Go.Ev Go.RowKit
set_option maxRecDepth 100000
set_option maxHeartbeats 8000000
set_option linter.all false
noncomputable section
abbrev shNL9_0 (a0 : Int) (a1 : Int) (a2 : Int) (a3 : Int) (a4 : Int) (a5 : Int) (a6 : Int) (a7 : Int) (a8 : Int) : D := .agg [.one (.int .i64 a0), .one (.int .i64 a1), .one (.int .i64 a2), .one (.int .i64 a3), .one (.int .i64 a4), .one (.int .i64 a5), .one (.int .i64 a6), .one (.int .i64 a7), .one (.int .i64 a8)]
def law7_sp : List LSpec := []
def law7_M_s0 (re fa fb fc fd : Int) (k : Nat) (c : List D) (st : Int) (kb : Nat) (cb : List D) (more : Int) (r0 : Bool) : Option D := pullD (α := Bool) (m_11 [.agg [iD re, iD fa, iD fb, iD fc, iD fd, .list k c]]) (fun d => ((D.vb d))) (fun r1 => .one (.bool r1)) fun r1 => ((if r1 = false then some (.one (.bool true)) else pullD (α := Int) (m_17 [.agg [iD re, iD fa, iD fb, iD fc, iD fd, .list k c], .agg [iD st, .list kb cb]]) (fun d => ((D.vi d))) (fun r2 => iD r2) fun r2 => ((if r2 ≠ (0 : Int) then some (.one (.bool true)) else pullD (α := Bool) (m_33 [iD more, iD (0 : Int), iD (IntKind.i64.wrap ((100 : Int) - re))]) (fun d => ((D.vb d))) (fun r3 => .one (.bool r3)) fun r3 => ((if r3 = false then some (.one (.bool true)) else pullD (α := Int × Int × Int × Int × Int × Nat × (List D)) (m_13 [.agg [iD re, iD fa, iD fb, iD fc, iD fd, .list k c]]) (fun d => ((D.vi (D.at d 0)), (D.vi (D.at d 1)), (D.vi (D.at d 2)), (D.vi (D.at d 3)), (D.vi (D.at d 4)), (D.ln (D.at d 5)), (D.lc (D.at d 5)))) (fun (r4, r5, r6, r7, r8, k9, c10) => .agg [iD r4, iD r5, iD r6, iD r7, iD r8, .list k9 c10]) fun (r4, r5, r6, r7, r8, k9, c10) => (pullD (α := Int × Int × Int × Int × Int × Nat × (List D)) (m_13 [.agg [iD re, iD fa, iD fb, iD fc, iD fd, .list k c]]) (fun d => ((D.vi (D.at d 0)), (D.vi (D.at d 1)), (D.vi (D.at d 2)), (D.vi (D.at d 3)), (D.vi (D.at d 4)), (D.ln (D.at d 5)), (D.lc (D.at d 5)))) (fun (r11, r12, r13, r14, r15, k16, c17) => .agg [iD r11, iD r12, iD r13, iD r14, iD r15, .list k16 c17]) fun (r11, r12, r13, r14, r15, k16, c17) => (pullD (α := Int × Nat × (List D)) (m_14 [.agg [iD st, .list kb cb]]) (fun d => ((D.vi (D.at d 0)), (D.ln (D.at d 1)), (D.lc (D.at d 1)))) (fun (r18, k19, c20) => .agg [iD r18, .list k19 c20]) fun (r18, k19, c20) => (pullD (α := Int × Int × Int × Int × Int × Int × Int × Int × Int × Int) (m_15 [.agg [iD r11, iD r12, iD r13, iD r14, iD r15, .list k16 c17], .agg [iD r18, .list k19 c20]]) (fun d => ((D.vi (D.at (D.at d 0) 0)), (D.vi (D.at (D.at d 0) 1)), (D.vi (D.at (D.at d 0) 2)), (D.vi (D.at (D.at d 0) 3)), (D.vi (D.at (D.at d 0) 4)), (D.vi (D.at (D.at d 0) 5)), (D.vi (D.at (D.at d 0) 6)), (D.vi (D.at (D.at d 0) 7)), (D.vi (D.at (D.at d 0) 8)), (D.vi (D.at d 1)))) (fun (r21, r22, r23, r24, r25, r26, r27, r28, r29, r30) => .tup [(shNL9_0 r21 r22 r23 r24 r25 r26 r27 r28 r29), iD r30]) fun (r21, r22, r23, r24, r25, r26, r27, r28, r29, r30) => (pullD (α := Int × Int × Int × Int × Int × Nat × (List D)) (m_13 [.agg [iD (IntKind.i64.wrap (re + more)), iD r5, iD r6, iD r7, iD r8, .list k9 c10]]) (fun d => ((D.vi (D.at d 0)), (D.vi (D.at d 1)), (D.vi (D.at d 2)), (D.vi (D.at d 3)), (D.vi (D.at d 4)), (D.ln (D.at d 5)), (D.lc (D.at d 5)))) (fun (r31, r32, r33, r34, r35, k36, c37) => .agg [iD r31, iD r32, iD r33, iD r34, iD r35, .list k36 c37]) fun (r31, r32, r33, r34, r35, k36, c37) => (pullD (α := Int × Nat × (List D)) (m_14 [.agg [iD st, .list kb cb]]) (fun d => ((D.vi (D.at d 0)), (D.ln (D.at d 1)), (D.lc (D.at d 1)))) (fun (r38, k39, c40) => .agg [iD r38, .list k39 c40]) fun (r38, k39, c40) => (pullD (α := Int × Int × Int × Int × Int × Int × Int × Int × Int × Int) (m_15 [.agg [iD r31, iD r32, iD r33, iD r34, iD r35, .list k36 c37], .agg [iD r38, .list k39 c40]]) (fun d => ((D.vi (D.at (D.at d 0) 0)), (D.vi (D.at (D.at d 0) 1)), (D.vi (D.at (D.at d 0) 2)), (D.vi (D.at (D.at d 0) 3)), (D.vi (D.at (D.at d 0) 4)), (D.vi (D.at (D.at d 0) 5)), (D.vi (D.at (D.at d 0) 6)), (D.vi (D.at (D.at d 0) 7)), (D.vi (D.at (D.at d 0) 8)), (D.vi (D.at d 1)))) (fun (r41, r42, r43, r44, r45, r46, r47, r48, r49, r50) => .tup [(shNL9_0 r41 r42 r43 r44 r45 r46 r47 r48 r49), iD r50]) fun (r41, r42, r43, r44, r45, r46, r47, r48, r49, r50) => ((if r50 ≠ (0 : Int) then (if r50 = (21 : Int) then some (.one (.bool (r41 == (0 : Int) && (r42 == (0 : Int) && (r43 == (0 : Int) && true) && (r44 == (0 : Int) && (r45 == (0 : Int) && true) && (r46 == (0 : Int) && (r47 == (0 : Int) && true) && (r48 == (0 : Int) && (r49 == (0 : Int) && true) && true))))))) else (if r50 = (12 : Int) then some (.one (.bool (r41 == (0 : Int) && (r42 == (0 : Int) && (r43 == (0 : Int) && true) && (r44 == (0 : Int) && (r45 == (0 : Int) && true) && (r46 == (0 : Int) && (r47 == (0 : Int) && true) && (r48 == (0 : Int) && (r49 == (0 : Int) && true) && true))))))) else some (.one (.bool false)))) else (if r30 ≠ (0 : Int) then some (.one (.bool false)) else pullD (α := Int) (m_31 [(shNL9_0 r21 r22 r23 r24 r25 r26 r27 r28 r29)]) (fun d => ((D.vi d))) (fun r51 => iD r51) fun r51 => ((if r51 ≠ (0 : Int) then some (.one (.bool false)) else pullD (α := Int) (m_31 [(shNL9_0 r41 r42 r43 r44 r45 r46 r47 r48 r49)]) (fun d => ((D.vi d))) (fun r52 => iD r52) fun r52 => ((if r52 ≠ (0 : Int) then some (.one (.bool false)) else (if r21 ≠ r41 then some (.one (.bool false)) else pullD (α := Bool) (m_34 [.agg [iD r22, iD r23], .agg [iD r42, iD r43]]) (fun d => ((D.vb d))) (fun r53 => .one (.bool r53)) fun r53 => ((if r53 = false then some (.one (.bool false)) else pullD (α := Bool) (m_34 [.agg [iD r24, iD r25], .agg [iD r44, iD r45]]) (fun d => ((D.vb d))) (fun r54 => .one (.bool r54)) fun r54 => ((if r54 = false then some (.one (.bool false)) else pullD (α := Bool) (m_34 [.agg [iD r26, iD r27], .agg [iD r46, iD r47]]) (fun d => ((D.vb d))) (fun r55 => .one (.bool r55)) fun r55 => ((if r55 = false then some (.one (.bool false)) else pullD (α := Bool) (m_34 [.agg [iD r28, iD r29], .agg [iD r48, iD r49]]) (fun d => ((D.vb d))) (fun r56 => .one (.bool r56)) fun r56 => ((if r56 = false then some (.one (.bool false)) else pullD (α := Int × Int × Int) (m_35 [(shNL9_0 r21 r22 r23 r24 r25 r26 r27 r28 r29), iD st]) (fun d => ((D.vi (D.at (D.at d 0) 0)), (D.vi (D.at (D.at d 0) 1)), (D.vi (D.at d 1)))) (fun (r57, r58, r59) => .tup [.agg [iD r57, iD r58], iD r59]) fun (r57, r58, r59) => (pullD (α := Int × Int × Int) (m_35 [(shNL9_0 r41 r42 r43 r44 r45 r46 r47 r48 r49), iD st]) (fun d => ((D.vi (D.at (D.at d 0) 0)), (D.vi (D.at (D.at d 0) 1)), (D.vi (D.at d 1)))) (fun (r60, r61, r62) => .tup [.agg [iD r60, iD r61], iD r62]) fun (r60, r61, r62) => (pullD (α := Int × Int × Int) (m_36 [(shNL9_0 r21 r22 r23 r24 r25 r26 r27 r28 r29), iD st]) (fun d => ((D.vi (D.at (D.at d 0) 0)), (D.vi (D.at (D.at d 0) 1)), (D.vi (D.at d 1)))) (fun (r63, r64, r65) => .tup [.agg [iD r63, iD r64], iD r65]) fun (r63, r64, r65) => (pullD (α := Int × Int × Int) (m_36 [(shNL9_0 r41 r42 r43 r44 r45 r46 r47 r48 r49), iD st]) (fun d => ((D.vi (D.at (D.at d 0) 0)), (D.vi (D.at (D.at d 0) 1)), (D.vi (D.at d 1)))) (fun (r66, r67, r68) => .tup [.agg [iD r66, iD r67], iD r68]) fun (r66, r67, r68) => ((if r59 ≠ (0 : Int) then some (.one (.bool false)) else (if r62 ≠ (0 : Int) then some (.one (.bool false)) else (if r65 ≠ (0 : Int) then some (.one (.bool false)) else (if r68 ≠ (0 : Int) then some (.one (.bool false)) else pullD (α := Bool) (m_34 [.agg [iD r57, iD r58], .agg [iD r60, iD r61]]) (fun d => ((D.vb d))) (fun r69 => .one (.bool r69)) fun r69 => ((if r69 = false then some (.one (.bool false)) else pullD (α := Bool) (m_34 [.agg [iD r63, iD r64], .agg [iD r66, iD r67]]) (fun d => ((D.vb d))) (fun r70 => .one (.bool r70)) fun r70 => ((if r70 = false then some (.one (.bool false)) else pullD (α := Int × Int × Int × Int × Int × Nat × (List D)) (m_13 [.agg [iD re, iD fa, iD fb, iD fc, iD fd, .list k c]]) (fun d => ((D.vi (D.at d 0)), (D.vi (D.at d 1)), (D.vi (D.at d 2)), (D.vi (D.at d 3)), (D.vi (D.at d 4)), (D.ln (D.at d 5)), (D.lc (D.at d 5)))) (fun (r71, r72, r73, r74, r75, k76, c77) => .agg [iD r71, iD r72, iD r73, iD r74, iD r75, .list k76 c77]) fun (r71, r72, r73, r74, r75, k76, c77) => (pullD (α := Int × Int × Int) (m_37 [.agg [iD r71, iD r72, iD r73, iD r74, iD r75, .list k76 c77], (shNL9_0 r21 r22 r23 r24 r25 r26 r27 r28 r29)]) (fun d => ((D.vi (D.at (D.at d 0) 0)), (D.vi (D.at (D.at d 0) 1)), (D.vi (D.at d 1)))) (fun (r78, r79, r80) => .tup [.agg [iD r78, iD r79], iD r80]) fun (r78, r79, r80) => (pullD (α := Int × Int × Int × Int × Int × Nat × (List D)) (m_13 [.agg [iD re, iD fa, iD fb, iD fc, iD fd, .list k c]]) (fun d => ((D.vi (D.at d 0)), (D.vi (D.at d 1)), (D.vi (D.at d 2)), (D.vi (D.at d 3)), (D.vi (D.at d 4)), (D.ln (D.at d 5)), (D.lc (D.at d 5)))) (fun (r81, r82, r83, r84, r85, k86, c87) => .agg [iD r81, iD r82, iD r83, iD r84, iD r85, .list k86 c87]) fun (r81, r82, r83, r84, r85, k86, c87) => (pullD (α := Int × Int × Int) (m_37 [.agg [iD r81, iD r82, iD r83, iD r84, iD r85, .list k86 c87], (shNL9_0 r41 r42 r43 r44 r45 r46 r47 r48 r49)]) (fun d => ((D.vi (D.at (D.at d 0) 0)), (D.vi (D.at (D.at d 0) 1)), (D.vi (D.at d 1)))) (fun (r88, r89, r90) => .tup [.agg [iD r88, iD r89], iD r90]) fun (r88, r89, r90) => ((if r80 = r90 then (if r80 = (8 : Int) then some (.one (.bool true)) else (if r80 = (0 : Int) then pullD (α := Bool) (m_34 [.agg [iD r78, iD r79], .agg [iD r88, iD r89]]) (fun d => ((D.vb d))) (fun r91 => .one (.bool r91)) fun r91 => (some (.one (.bool r91))) else some (.one (.bool false)))) else some (.one (.bool false)))))))))))))))))))))))))))))))))))))))))))))))
def law7_M (re fa fb fc fd : Int) (k : Nat) (c : List D) (st : Int) (kb : Nat) (cb : List D) (more : Int) : Option D := pullD (α := Bool) (m_9 []) (fun d => ((D.vb d))) (fun r0 => .one (.bool r0)) fun r0 => ((if r0 = false then some (.one (.bool false)) else law7_M_s0 re fa fb fc fd k c st kb cb more r0))
theorem law7_M_s0_ok (re fa fb fc fd : Int) (k : Nat) (c : List D) (st : Int) (kb : Nat) (cb : List D) (more : Int) (r0 : Bool) (f1_ : Con 9 [] (.one (.bool r0))) (b5_ : r0 = true) {r : D} (h : law7_M_s0 re fa fb fc fd k c st kb cb more r0 = some r) : Con 7 [.agg [iD re, iD fa, iD fb, iD fc, iD fd, .list k c], .agg [iD st, .list kb cb], iD more] r := by
  unfold law7_M_s0 at h
  obtain ⟨r1, fq1_, hq2_⟩ := pullD_elim h
  replace fq1_ := m_11_ok fq1_
  by_cases bq3_ : r1 = false
  · have hq4_ := (if_pos bq3_).symm.trans hq2_
    obtain rfl := Option.some.inj hq4_
    exact con_pc (op := true) (I := [7]) (sp := law7_sp) 3000 (bF 1 (bT 13 [])) [.one (.bool r0), .one (.bool r1)] [c_nn b5_, c_no bq3_, c_no bq3_, c_no bq3_, c_no bq3_, c_no bq3_, c_T, c_T, c_T, c_T, c_T, c_T, c_T, c_T] [k_c f1_, k_c fq1_] (by kernel_rfl)
  have hq4_ := (if_neg bq3_).symm.trans hq2_
  have bq5_ : r1 = true := by first | exact bq3_ | simpa using bq3_
  obtain ⟨r2, fq6_, hq7_⟩ := pullD_elim hq4_
  replace fq6_ := m_17_ok fq6_
  by_cases bq8_ : r2 ≠ (0 : Int)
  · have hq9_ := (if_pos bq8_).symm.trans hq7_
    obtain rfl := Option.some.inj hq9_
    exact con_pc (op := true) (I := [7]) (sp := law7_sp) 3000 (bF 6 (bT 8 [])) [.one (.bool r0), .one (.bool r1), iD r2] [c_nn b5_, c_nn bq5_, c_nn bq5_, c_nn bq5_, c_nn bq5_, c_nn bq5_, c_b bq8_, c_b bq8_, c_b bq8_, c_b bq8_, c_b bq8_, c_b bq8_, c_b bq8_, c_T] [k_c f1_, k_c fq1_, k_c fq6_] (by kernel_rfl)
  have hq9_ := (if_neg bq8_).symm.trans hq7_
  have bq10_ : r2 = (0 : Int) := by first | exact bq8_ | simpa using bq8_
  obtain ⟨r3, fq11_, hq12_⟩ := pullD_elim hq9_
  replace fq11_ := m_33_ok fq11_
  by_cases bq13_ : r3 = false
  · have hq14_ := (if_pos bq13_).symm.trans hq12_
    obtain rfl := Option.some.inj hq14_
    exact con_pc (op := true) (I := [7]) (sp := law7_sp) 3000 (bF 13 (bT 1 [])) [.one (.bool r0), .one (.bool r1), iD r2, .one (.bool r3)] [c_nn b5_, c_nn bq5_, c_nn bq5_, c_nn bq5_, c_nn bq5_, c_nn bq5_, c_bn bq10_, c_bn bq10_, c_bn bq10_, c_bn bq10_, c_bn bq10_, c_bn bq10_, c_bn bq10_, c_no bq13_] [k_c f1_, k_c fq1_, k_c fq6_, k_c fq11_] (by kernel_rfl)
  have hq14_ := (if_neg bq13_).symm.trans hq12_
  have bq15_ : r3 = true := by first | exact bq13_ | simpa using bq13_
  obtain ⟨⟨r4, r5, r6, r7, r8, k9, c10⟩, fq16_, hq17_⟩ := pullD_elim hq14_
  replace fq16_ := m_13_ok fq16_
  obtain ⟨⟨r11, r12, r13, r14, r15, k16, c17⟩, fq18_, hq19_⟩ := pullD_elim hq17_
  replace fq18_ := m_13_ok fq18_
  obtain ⟨⟨r18, k19, c20⟩, fq20_, hq21_⟩ := pullD_elim hq19_
  replace fq20_ := m_14_ok fq20_
  obtain ⟨⟨r21, r22, r23, r24, r25, r26, r27, r28, r29, r30⟩, fq22_, hq23_⟩ := pullD_elim hq21_
  replace fq22_ := m_15_ok fq22_
  obtain ⟨⟨r31, r32, r33, r34, r35, k36, c37⟩, fq24_, hq25_⟩ := pullD_elim hq23_
  replace fq24_ := m_13_ok fq24_
  obtain ⟨⟨r38, k39, c40⟩, fq26_, hq27_⟩ := pullD_elim hq25_
  replace fq26_ := m_14_ok fq26_
  obtain ⟨⟨r41, r42, r43, r44, r45, r46, r47, r48, r49, r50⟩, fq28_, hq29_⟩ := pullD_elim hq27_
  replace fq28_ := m_15_ok fq28_
  by_cases bq30_ : r50 ≠ (0 : Int)
  · have hq31_ := (if_pos bq30_).symm.trans hq29_
    by_cases bq32_ : r50 = (21 : Int)
    · have hq33_ := (if_pos bq32_).symm.trans hq31_
      obtain rfl := Option.some.inj hq33_
      exact con_pc (op := true) (I := [7]) (sp := law7_sp) 3000 (bF 14 (bT 8 [])) [.one (.bool r0), .one (.bool r1), iD r2, .one (.bool r3), .agg [iD r4, iD r5, iD r6, iD r7, iD r8, .list k9 c10], .agg [iD r11, iD r12, iD r13, iD r14, iD r15, .list k16 c17], .agg [iD r18, .list k19 c20], .tup [(shNL9_0 r21 r22 r23 r24 r25 r26 r27 r28 r29), iD r30], .agg [iD r31, iD r32, iD r33, iD r34, iD r35, .list k36 c37], .agg [iD r38, .list k39 c40], .tup [(shNL9_0 r41 r42 r43 r44 r45 r46 r47 r48 r49), iD r50]] [c_nn b5_, c_nn bq5_, c_nn bq5_, c_nn bq5_, c_nn bq5_, c_nn bq5_, c_bn bq10_, c_bn bq10_, c_bn bq10_, c_bn bq10_, c_bn bq10_, c_bn bq10_, c_bn bq10_, c_nn bq15_, c_b bq30_, c_e bq32_, c_e bq32_, c_e bq32_, c_T, c_T, c_T, c_T] [k_c f1_, k_c fq1_, k_c fq6_, k_c fq11_, k_c fq16_, k_c fq18_, k_c fq20_, k_c fq22_, k_c fq24_, k_c fq26_, k_c fq28_] (by kernel_rfl)
    have hq33_ := (if_neg bq32_).symm.trans hq31_
    have bq34_ : r50 ≠ (21 : Int) := by first | exact bq32_ | simpa using bq32_
    by_cases bq35_ : r50 = (12 : Int)
    · have hq36_ := (if_pos bq35_).symm.trans hq33_
      obtain rfl := Option.some.inj hq36_
      exact con_pc (op := true) (I := [7]) (sp := law7_sp) 3000 (bF 14 (bT 1 (bF 3 (bT 4 [])))) [.one (.bool r0), .one (.bool r1), iD r2, .one (.bool r3), .agg [iD r4, iD r5, iD r6, iD r7, iD r8, .list k9 c10], .agg [iD r11, iD r12, iD r13, iD r14, iD r15, .list k16 c17], .agg [iD r18, .list k19 c20], .tup [(shNL9_0 r21 r22 r23 r24 r25 r26 r27 r28 r29), iD r30], .agg [iD r31, iD r32, iD r33, iD r34, iD r35, .list k36 c37], .agg [iD r38, .list k39 c40], .tup [(shNL9_0 r41 r42 r43 r44 r45 r46 r47 r48 r49), iD r50]] [c_nn b5_, c_nn bq5_, c_nn bq5_, c_nn bq5_, c_nn bq5_, c_nn bq5_, c_bn bq10_, c_bn bq10_, c_bn bq10_, c_bn bq10_, c_bn bq10_, c_bn bq10_, c_bn bq10_, c_nn bq15_, c_b bq30_, c_en bq34_, c_en bq34_, c_en bq34_, c_e bq35_, c_e bq35_, c_e bq35_, c_e bq35_] [k_c f1_, k_c fq1_, k_c fq6_, k_c fq11_, k_c fq16_, k_c fq18_, k_c fq20_, k_c fq22_, k_c fq24_, k_c fq26_, k_c fq28_] (by kernel_rfl)
    have hq36_ := (if_neg bq35_).symm.trans hq33_
    have bq37_ : r50 ≠ (12 : Int) := by first | exact bq35_ | simpa using bq35_
    obtain rfl := Option.some.inj hq36_
    exact con_pc (op := true) (I := [7]) (sp := law7_sp) 3000 (bF 14 (bT 1 (bF 7 []))) [.one (.bool r0), .one (.bool r1), iD r2, .one (.bool r3), .agg [iD r4, iD r5, iD r6, iD r7, iD r8, .list k9 c10], .agg [iD r11, iD r12, iD r13, iD r14, iD r15, .list k16 c17], .agg [iD r18, .list k19 c20], .tup [(shNL9_0 r21 r22 r23 r24 r25 r26 r27 r28 r29), iD r30], .agg [iD r31, iD r32, iD r33, iD r34, iD r35, .list k36 c37], .agg [iD r38, .list k39 c40], .tup [(shNL9_0 r41 r42 r43 r44 r45 r46 r47 r48 r49), iD r50]] [c_nn b5_, c_nn bq5_, c_nn bq5_, c_nn bq5_, c_nn bq5_, c_nn bq5_, c_bn bq10_, c_bn bq10_, c_bn bq10_, c_bn bq10_, c_bn bq10_, c_bn bq10_, c_bn bq10_, c_nn bq15_, c_b bq30_, c_en bq34_, c_en bq34_, c_en bq34_, c_en bq37_, c_en bq37_, c_en bq37_, c_en bq37_] [k_c f1_, k_c fq1_, k_c fq6_, k_c fq11_, k_c fq16_, k_c fq18_, k_c fq20_, k_c fq22_, k_c fq24_, k_c fq26_, k_c fq28_] (by kernel_rfl)
  have hq31_ := (if_neg bq30_).symm.trans hq29_
  have bq38_ : r50 = (0 : Int) := by first | exact bq30_ | simpa using bq30_
  by_cases bq39_ : r30 ≠ (0 : Int)
  · have hq40_ := (if_pos bq39_).symm.trans hq31_
    obtain rfl := Option.some.inj hq40_
    exact con_pc (op := true) (I := [7]) (sp := law7_sp) 3000 (bF 15 (bT 43 [])) [.one (.bool r0), .one (.bool r1), iD r2, .one (.bool r3), .agg [iD r4, iD r5, iD r6, iD r7, iD r8, .list k9 c10], .agg [iD r11, iD r12, iD r13, iD r14, iD r15, .list k16 c17], .agg [iD r18, .list k19 c20], .tup [(shNL9_0 r21 r22 r23 r24 r25 r26 r27 r28 r29), iD r30], .agg [iD r31, iD r32, iD r33, iD r34, iD r35, .list k36 c37], .agg [iD r38, .list k39 c40], .tup [(shNL9_0 r41 r42 r43 r44 r45 r46 r47 r48 r49), iD r50]] [c_nn b5_, c_nn bq5_, c_nn bq5_, c_nn bq5_, c_nn bq5_, c_nn bq5_, c_bn bq10_, c_bn bq10_, c_bn bq10_, c_bn bq10_, c_bn bq10_, c_bn bq10_, c_bn bq10_, c_nn bq15_, c_bn bq38_, c_b bq39_, c_b bq39_, c_b bq39_, c_b bq39_, c_T, c_T, c_T, c_T, c_T, c_T, c_T, c_T, c_T, c_T, c_T, c_T, c_T, c_T, c_T, c_T, c_T, c_T, c_T, c_T, c_T, c_T, c_T, c_T, c_T, c_T, c_T, c_T, c_T, c_T, c_T, c_T, c_T, c_T, c_T, c_T, c_T, c_T, c_T] [k_c f1_, k_c fq1_, k_c fq6_, k_c fq11_, k_c fq16_, k_c fq18_, k_c fq20_, k_c fq22_, k_c fq24_, k_c fq26_, k_c fq28_] (by kernel_rfl)
  have hq40_ := (if_neg bq39_).symm.trans hq31_
  have bq41_ : r30 = (0 : Int) := by first | exact bq39_ | simpa using bq39_
  obtain ⟨r51, fq42_, hq43_⟩ := pullD_elim hq40_
  replace fq42_ := m_31_ok fq42_
  by_cases bq44_ : r51 ≠ (0 : Int)
  · have hq45_ := (if_pos bq44_).symm.trans hq43_
    obtain rfl := Option.some.inj hq45_
    exact con_pc (op := true) (I := [7]) (sp := law7_sp) 3000 (bF 19 (bT 39 [])) [.one (.bool r0), .one (.bool r1), iD r2, .one (.bool r3), .agg [iD r4, iD r5, iD r6, iD r7, iD r8, .list k9 c10], .agg [iD r11, iD r12, iD r13, iD r14, iD r15, .list k16 c17], .agg [iD r18, .list k19 c20], .tup [(shNL9_0 r21 r22 r23 r24 r25 r26 r27 r28 r29), iD r30], .agg [iD r31, iD r32, iD r33, iD r34, iD r35, .list k36 c37], .agg [iD r38, .list k39 c40], .tup [(shNL9_0 r41 r42 r43 r44 r45 r46 r47 r48 r49), iD r50], iD r51] [c_nn b5_, c_nn bq5_, c_nn bq5_, c_nn bq5_, c_nn bq5_, c_nn bq5_, c_bn bq10_, c_bn bq10_, c_bn bq10_, c_bn bq10_, c_bn bq10_, c_bn bq10_, c_bn bq10_, c_nn bq15_, c_bn bq38_, c_bn bq41_, c_bn bq41_, c_bn bq41_, c_bn bq41_, c_b bq44_, c_b bq44_, c_b bq44_, c_b bq44_, c_T, c_T, c_T, c_T, c_T, c_T, c_T, c_T, c_T, c_T, c_T, c_T, c_T, c_T, c_T, c_T, c_T, c_T, c_T, c_T, c_T, c_T, c_T, c_T, c_T, c_T, c_T, c_T, c_T, c_T, c_T, c_T, c_T, c_T, c_T] [k_c f1_, k_c fq1_, k_c fq6_, k_c fq11_, k_c fq16_, k_c fq18_, k_c fq20_, k_c fq22_, k_c fq24_, k_c fq26_, k_c fq28_, k_c fq42_] (by kernel_rfl)
  have hq45_ := (if_neg bq44_).symm.trans hq43_
  have bq46_ : r51 = (0 : Int) := by first | exact bq44_ | simpa using bq44_
  obtain ⟨r52, fq47_, hq48_⟩ := pullD_elim hq45_
  replace fq47_ := m_31_ok fq47_
  by_cases bq49_ : r52 ≠ (0 : Int)
  · have hq50_ := (if_pos bq49_).symm.trans hq48_
    obtain rfl := Option.some.inj hq50_
    exact con_pc (op := true) (I := [7]) (sp := law7_sp) 3000 (bF 23 (bT 35 [])) [.one (.bool r0), .one (.bool r1), iD r2, .one (.bool r3), .agg [iD r4, iD r5, iD r6, iD r7, iD r8, .list k9 c10], .agg [iD r11, iD r12, iD r13, iD r14, iD r15, .list k16 c17], .agg [iD r18, .list k19 c20], .tup [(shNL9_0 r21 r22 r23 r24 r25 r26 r27 r28 r29), iD r30], .agg [iD r31, iD r32, iD r33, iD r34, iD r35, .list k36 c37], .agg [iD r38, .list k39 c40], .tup [(shNL9_0 r41 r42 r43 r44 r45 r46 r47 r48 r49), iD r50], iD r51, iD r52] [c_nn b5_, c_nn bq5_, c_nn bq5_, c_nn bq5_, c_nn bq5_, c_nn bq5_, c_bn bq10_, c_bn bq10_, c_bn bq10_, c_bn bq10_, c_bn bq10_, c_bn bq10_, c_bn bq10_, c_nn bq15_, c_bn bq38_, c_bn bq41_, c_bn bq41_, c_bn bq41_, c_bn bq41_, c_bn bq46_, c_bn bq46_, c_bn bq46_, c_bn bq46_, c_b bq49_, c_b bq49_, c_b bq49_, c_b bq49_, c_b bq49_, c_b bq49_, c_T, c_T, c_T, c_T, c_T, c_T, c_T, c_T, c_T, c_T, c_T, c_T, c_T, c_T, c_T, c_T, c_T, c_T, c_T, c_T, c_T, c_T, c_T, c_T, c_T, c_T, c_T, c_T, c_T] [k_c f1_, k_c fq1_, k_c fq6_, k_c fq11_, k_c fq16_, k_c fq18_, k_c fq20_, k_c fq22_, k_c fq24_, k_c fq26_, k_c fq28_, k_c fq42_, k_c fq47_] (by kernel_rfl)
  have hq50_ := (if_neg bq49_).symm.trans hq48_
  have bq51_ : r52 = (0 : Int) := by first | exact bq49_ | simpa using bq49_
  by_cases bq52_ : r21 ≠ r41
  · have hq53_ := (if_pos bq52_).symm.trans hq50_
    obtain rfl := Option.some.inj hq53_
    exact con_pc (op := true) (I := [7]) (sp := law7_sp) 3000 (bF 29 (bT 29 [])) [.one (.bool r0), .one (.bool r1), iD r2, .one (.bool r3), .agg [iD r4, iD r5, iD r6, iD r7, iD r8, .list k9 c10], .agg [iD r11, iD r12, iD r13, iD r14, iD r15, .list k16 c17], .agg [iD r18, .list k19 c20], .tup [(shNL9_0 r21 r22 r23 r24 r25 r26 r27 r28 r29), iD r30], .agg [iD r31, iD r32, iD r33, iD r34, iD r35, .list k36 c37], .agg [iD r38, .list k39 c40], .tup [(shNL9_0 r41 r42 r43 r44 r45 r46 r47 r48 r49), iD r50], iD r51, iD r52] [c_nn b5_, c_nn bq5_, c_nn bq5_, c_nn bq5_, c_nn bq5_, c_nn bq5_, c_bn bq10_, c_bn bq10_, c_bn bq10_, c_bn bq10_, c_bn bq10_, c_bn bq10_, c_bn bq10_, c_nn bq15_, c_bn bq38_, c_bn bq41_, c_bn bq41_, c_bn bq41_, c_bn bq41_, c_bn bq46_, c_bn bq46_, c_bn bq46_, c_bn bq46_, c_bn bq51_, c_bn bq51_, c_bn bq51_, c_bn bq51_, c_bn bq51_, c_bn bq51_, c_b bq52_, c_b bq52_, c_b bq52_, c_b bq52_, c_b bq52_, c_b bq52_, c_b bq52_, c_T, c_T, c_T, c_T, c_T, c_T, c_T, c_T, c_T, c_T, c_T, c_T, c_T, c_T, c_T, c_T, c_T, c_T, c_T, c_T, c_T, c_T] [k_c f1_, k_c fq1_, k_c fq6_, k_c fq11_, k_c fq16_, k_c fq18_, k_c fq20_, k_c fq22_, k_c fq24_, k_c fq26_, k_c fq28_, k_c fq42_, k_c fq47_] (by kernel_rfl)
  have hq53_ := (if_neg bq52_).symm.trans hq50_
  have bq54_ : r21 = r41 := by first | exact bq52_ | simpa using bq52_
  obtain ⟨r53, fq55_, hq56_⟩ := pullD_elim hq53_
  replace fq55_ := m_34_ok fq55_
  by_cases bq57_ : r53 = false
  · have hq58_ := (if_pos bq57_).symm.trans hq56_
    obtain rfl := Option.some.inj hq58_
    exact con_pc (op := true) (I := [7]) (sp := law7_sp) 3000 (bF 36 (bT 22 [])) [.one (.bool r0), .one (.bool r1), iD r2, .one (.bool r3), .agg [iD r4, iD r5, iD r6, iD r7, iD r8, .list k9 c10], .agg [iD r11, iD r12, iD r13, iD r14, iD r15, .list k16 c17], .agg [iD r18, .list k19 c20], .tup [(shNL9_0 r21 r22 r23 r24 r25 r26 r27 r28 r29), iD r30], .agg [iD r31, iD r32, iD r33, iD r34, iD r35, .list k36 c37], .agg [iD r38, .list k39 c40], .tup [(shNL9_0 r41 r42 r43 r44 r45 r46 r47 r48 r49), iD r50], iD r51, iD r52, .one (.bool r53)] [c_nn b5_, c_nn bq5_, c_nn bq5_, c_nn bq5_, c_nn bq5_, c_nn bq5_, c_bn bq10_, c_bn bq10_, c_bn bq10_, c_bn bq10_, c_bn bq10_, c_bn bq10_, c_bn bq10_, c_nn bq15_, c_bn bq38_, c_bn bq41_, c_bn bq41_, c_bn bq41_, c_bn bq41_, c_bn bq46_, c_bn bq46_, c_bn bq46_, c_bn bq46_, c_bn bq51_, c_bn bq51_, c_bn bq51_, c_bn bq51_, c_bn bq51_, c_bn bq51_, c_bn bq54_, c_bn bq54_, c_bn bq54_, c_bn bq54_, c_bn bq54_, c_bn bq54_, c_bn bq54_, c_no bq57_, c_no bq57_, c_no bq57_, c_no bq57_, c_no bq57_, c_no bq57_, c_no bq57_, c_T, c_T, c_T, c_T, c_T, c_T, c_T, c_T, c_T, c_T, c_T, c_T, c_T, c_T, c_T] [k_c f1_, k_c fq1_, k_c fq6_, k_c fq11_, k_c fq16_, k_c fq18_, k_c fq20_, k_c fq22_, k_c fq24_, k_c fq26_, k_c fq28_, k_c fq42_, k_c fq47_, k_c fq55_] (by kernel_rfl)
  have hq58_ := (if_neg bq57_).symm.trans hq56_
  have bq59_ : r53 = true := by first | exact bq57_ | simpa using bq57_
  obtain ⟨r54, fq60_, hq61_⟩ := pullD_elim hq58_
  replace fq60_ := m_34_ok fq60_
  by_cases bq62_ : r54 = false
  · have hq63_ := (if_pos bq62_).symm.trans hq61_
    obtain rfl := Option.some.inj hq63_
    exact con_pc (op := true) (I := [7]) (sp := law7_sp) 3000 (bF 43 (bT 15 [])) [.one (.bool r0), .one (.bool r1), iD r2, .one (.bool r3), .agg [iD r4, iD r5, iD r6, iD r7, iD r8, .list k9 c10], .agg [iD r11, iD r12, iD r13, iD r14, iD r15, .list k16 c17], .agg [iD r18, .list k19 c20], .tup [(shNL9_0 r21 r22 r23 r24 r25 r26 r27 r28 r29), iD r30], .agg [iD r31, iD r32, iD r33, iD r34, iD r35, .list k36 c37], .agg [iD r38, .list k39 c40], .tup [(shNL9_0 r41 r42 r43 r44 r45 r46 r47 r48 r49), iD r50], iD r51, iD r52, .one (.bool r53), .one (.bool r54)] [c_nn b5_, c_nn bq5_, c_nn bq5_, c_nn bq5_, c_nn bq5_, c_nn bq5_, c_bn bq10_, c_bn bq10_, c_bn bq10_, c_bn bq10_, c_bn bq10_, c_bn bq10_, c_bn bq10_, c_nn bq15_, c_bn bq38_, c_bn bq41_, c_bn bq41_, c_bn bq41_, c_bn bq41_, c_bn bq46_, c_bn bq46_, c_bn bq46_, c_bn bq46_, c_bn bq51_, c_bn bq51_, c_bn bq51_, c_bn bq51_, c_bn bq51_, c_bn bq51_, c_bn bq54_, c_bn bq54_, c_bn bq54_, c_bn bq54_, c_bn bq54_, c_bn bq54_, c_bn bq54_, c_nn bq59_, c_nn bq59_, c_nn bq59_, c_nn bq59_, c_nn bq59_, c_nn bq59_, c_nn bq59_, c_no bq62_, c_no bq62_, c_no bq62_, c_no bq62_, c_no bq62_, c_no bq62_, c_no bq62_, c_T, c_T, c_T, c_T, c_T, c_T, c_T, c_T] [k_c f1_, k_c fq1_, k_c fq6_, k_c fq11_, k_c fq16_, k_c fq18_, k_c fq20_, k_c fq22_, k_c fq24_, k_c fq26_, k_c fq28_, k_c fq42_, k_c fq47_, k_c fq55_, k_c fq60_] (by kernel_rfl)
  have hq63_ := (if_neg bq62_).symm.trans hq61_
  have bq64_ : r54 = true := by first | exact bq62_ | simpa using bq62_
  obtain ⟨r55, fq65_, hq66_⟩ := pullD_elim hq63_
  replace fq65_ := m_34_ok fq65_
  by_cases bq67_ : r55 = false
  · have hq68_ := (if_pos bq67_).symm.trans hq66_
    obtain rfl := Option.some.inj hq68_
    exact con_pc (op := true) (I := [7]) (sp := law7_sp) 3000 (bF 50 (bT 8 [])) [.one (.bool r0), .one (.bool r1), iD r2, .one (.bool r3), .agg [iD r4, iD r5, iD r6, iD r7, iD r8, .list k9 c10], .agg [iD r11, iD r12, iD r13, iD r14, iD r15, .list k16 c17], .agg [iD r18, .list k19 c20], .tup [(shNL9_0 r21 r22 r23 r24 r25 r26 r27 r28 r29), iD r30], .agg [iD r31, iD r32, iD r33, iD r34, iD r35, .list k36 c37], .agg [iD r38, .list k39 c40], .tup [(shNL9_0 r41 r42 r43 r44 r45 r46 r47 r48 r49), iD r50], iD r51, iD r52, .one (.bool r53), .one (.bool r54), .one (.bool r55)] [c_nn b5_, c_nn bq5_, c_nn bq5_, c_nn bq5_, c_nn bq5_, c_nn bq5_, c_bn bq10_, c_bn bq10_, c_bn bq10_, c_bn bq10_, c_bn bq10_, c_bn bq10_, c_bn bq10_, c_nn bq15_, c_bn bq38_, c_bn bq41_, c_bn bq41_, c_bn bq41_, c_bn bq41_, c_bn bq46_, c_bn bq46_, c_bn bq46_, c_bn bq46_, c_bn bq51_, c_bn bq51_, c_bn bq51_, c_bn bq51_, c_bn bq51_, c_bn bq51_, c_bn bq54_, c_bn bq54_, c_bn bq54_, c_bn bq54_, c_bn bq54_, c_bn bq54_, c_bn bq54_, c_nn bq59_, c_nn bq59_, c_nn bq59_, c_nn bq59_, c_nn bq59_, c_nn bq59_, c_nn bq59_, c_nn bq64_, c_nn bq64_, c_nn bq64_, c_nn bq64_, c_nn bq64_, c_nn bq64_, c_nn bq64_, c_no bq67_, c_no bq67_, c_no bq67_, c_no bq67_, c_no bq67_, c_no bq67_, c_no bq67_, c_T] [k_c f1_, k_c fq1_, k_c fq6_, k_c fq11_, k_c fq16_, k_c fq18_, k_c fq20_, k_c fq22_, k_c fq24_, k_c fq26_, k_c fq28_, k_c fq42_, k_c fq47_, k_c fq55_, k_c fq60_, k_c fq65_] (by kernel_rfl)
  have hq68_ := (if_neg bq67_).symm.trans hq66_
  have bq69_ : r55 = true := by first | exact bq67_ | simpa using bq67_
  obtain ⟨r56, fq70_, hq71_⟩ := pullD_elim hq68_
  replace fq70_ := m_34_ok fq70_
  by_cases bq72_ : r56 = false
  · have hq73_ := (if_pos bq72_).symm.trans hq71_
    obtain rfl := Option.some.inj hq73_
    exact con_pc (op := true) (I := [7]) (sp := law7_sp) 3000 (bF 57 (bT 1 [])) [.one (.bool r0), .one (.bool r1), iD r2, .one (.bool r3), .agg [iD r4, iD r5, iD r6, iD r7, iD r8, .list k9 c10], .agg [iD r11, iD r12, iD r13, iD r14, iD r15, .list k16 c17], .agg [iD r18, .list k19 c20], .tup [(shNL9_0 r21 r22 r23 r24 r25 r26 r27 r28 r29), iD r30], .agg [iD r31, iD r32, iD r33, iD r34, iD r35, .list k36 c37], .agg [iD r38, .list k39 c40], .tup [(shNL9_0 r41 r42 r43 r44 r45 r46 r47 r48 r49), iD r50], iD r51, iD r52, .one (.bool r53), .one (.bool r54), .one (.bool r55), .one (.bool r56)] [c_nn b5_, c_nn bq5_, c_nn bq5_, c_nn bq5_, c_nn bq5_, c_nn bq5_, c_bn bq10_, c_bn bq10_, c_bn bq10_, c_bn bq10_, c_bn bq10_, c_bn bq10_, c_bn bq10_, c_nn bq15_, c_bn bq38_, c_bn bq41_, c_bn bq41_, c_bn bq41_, c_bn bq41_, c_bn bq46_, c_bn bq46_, c_bn bq46_, c_bn bq46_, c_bn bq51_, c_bn bq51_, c_bn bq51_, c_bn bq51_, c_bn bq51_, c_bn bq51_, c_bn bq54_, c_bn bq54_, c_bn bq54_, c_bn bq54_, c_bn bq54_, c_bn bq54_, c_bn bq54_, c_nn bq59_, c_nn bq59_, c_nn bq59_, c_nn bq59_, c_nn bq59_, c_nn bq59_, c_nn bq59_, c_nn bq64_, c_nn bq64_, c_nn bq64_, c_nn bq64_, c_nn bq64_, c_nn bq64_, c_nn bq64_, c_nn bq69_, c_nn bq69_, c_nn bq69_, c_nn bq69_, c_nn bq69_, c_nn bq69_, c_nn bq69_, c_no bq72_] [k_c f1_, k_c fq1_, k_c fq6_, k_c fq11_, k_c fq16_, k_c fq18_, k_c fq20_, k_c fq22_, k_c fq24_, k_c fq26_, k_c fq28_, k_c fq42_, k_c fq47_, k_c fq55_, k_c fq60_, k_c fq65_, k_c fq70_] (by kernel_rfl)
  have hq73_ := (if_neg bq72_).symm.trans hq71_
  have bq74_ : r56 = true := by first | exact bq72_ | simpa using bq72_
  obtain ⟨⟨r57, r58, r59⟩, fq75_, hq76_⟩ := pullD_elim hq73_
  replace fq75_ := m_35_ok fq75_
  obtain ⟨⟨r60, r61, r62⟩, fq77_, hq78_⟩ := pullD_elim hq76_
  replace fq77_ := m_35_ok fq77_
  obtain ⟨⟨r63, r64, r65⟩, fq79_, hq80_⟩ := pullD_elim hq78_
  replace fq79_ := m_36_ok fq79_
  obtain ⟨⟨r66, r67, r68⟩, fq81_, hq82_⟩ := pullD_elim hq80_
  replace fq81_ := m_36_ok fq81_
  by_cases bq83_ : r59 ≠ (0 : Int)
  · have hq84_ := (if_pos bq83_).symm.trans hq82_
    obtain rfl := Option.some.inj hq84_
    exact con_pc (op := true) (I := [7]) (sp := law7_sp) 3000 (bF 58 (bT 20 [])) [.one (.bool r0), .one (.bool r1), iD r2, .one (.bool r3), .agg [iD r4, iD r5, iD r6, iD r7, iD r8, .list k9 c10], .agg [iD r11, iD r12, iD r13, iD r14, iD r15, .list k16 c17], .agg [iD r18, .list k19 c20], .tup [(shNL9_0 r21 r22 r23 r24 r25 r26 r27 r28 r29), iD r30], .agg [iD r31, iD r32, iD r33, iD r34, iD r35, .list k36 c37], .agg [iD r38, .list k39 c40], .tup [(shNL9_0 r41 r42 r43 r44 r45 r46 r47 r48 r49), iD r50], iD r51, iD r52, .one (.bool r53), .one (.bool r54), .one (.bool r55), .one (.bool r56), .tup [.agg [iD r57, iD r58], iD r59], .tup [.agg [iD r60, iD r61], iD r62], .tup [.agg [iD r63, iD r64], iD r65], .tup [.agg [iD r66, iD r67], iD r68]] [c_nn b5_, c_nn bq5_, c_nn bq5_, c_nn bq5_, c_nn bq5_, c_nn bq5_, c_bn bq10_, c_bn bq10_, c_bn bq10_, c_bn bq10_, c_bn bq10_, c_bn bq10_, c_bn bq10_, c_nn bq15_, c_bn bq38_, c_bn bq41_, c_bn bq41_, c_bn bq41_, c_bn bq41_, c_bn bq46_, c_bn bq46_, c_bn bq46_, c_bn bq46_, c_bn bq51_, c_bn bq51_, c_bn bq51_, c_bn bq51_, c_bn bq51_, c_bn bq51_, c_bn bq54_, c_bn bq54_, c_bn bq54_, c_bn bq54_, c_bn bq54_, c_bn bq54_, c_bn bq54_, c_nn bq59_, c_nn bq59_, c_nn bq59_, c_nn bq59_, c_nn bq59_, c_nn bq59_, c_nn bq59_, c_nn bq64_, c_nn bq64_, c_nn bq64_, c_nn bq64_, c_nn bq64_, c_nn bq64_, c_nn bq64_, c_nn bq69_, c_nn bq69_, c_nn bq69_, c_nn bq69_, c_nn bq69_, c_nn bq69_, c_nn bq69_, c_nn bq74_, c_b bq83_, c_b bq83_, c_b bq83_, c_T, c_T, c_T, c_T, c_T, c_T, c_T, c_T, c_T, c_T, c_T, c_T, c_T, c_T, c_T, c_T, c_T] [k_c f1_, k_c fq1_, k_c fq6_, k_c fq11_, k_c fq16_, k_c fq18_, k_c fq20_, k_c fq22_, k_c fq24_, k_c fq26_, k_c fq28_, k_c fq42_, k_c fq47_, k_c fq55_, k_c fq60_, k_c fq65_, k_c fq70_, k_c fq75_, k_c fq77_, k_c fq79_, k_c fq81_] (by kernel_rfl)
  have hq84_ := (if_neg bq83_).symm.trans hq82_
  have bq85_ : r59 = (0 : Int) := by first | exact bq83_ | simpa using bq83_
  by_cases bq86_ : r62 ≠ (0 : Int)
  · have hq87_ := (if_pos bq86_).symm.trans hq84_
    obtain rfl := Option.some.inj hq87_
    exact con_pc (op := true) (I := [7]) (sp := law7_sp) 3000 (bF 61 (bT 17 [])) [.one (.bool r0), .one (.bool r1), iD r2, .one (.bool r3), .agg [iD r4, iD r5, iD r6, iD r7, iD r8, .list k9 c10], .agg [iD r11, iD r12, iD r13, iD r14, iD r15, .list k16 c17], .agg [iD r18, .list k19 c20], .tup [(shNL9_0 r21 r22 r23 r24 r25 r26 r27 r28 r29), iD r30], .agg [iD r31, iD r32, iD r33, iD r34, iD r35, .list k36 c37], .agg [iD r38, .list k39 c40], .tup [(shNL9_0 r41 r42 r43 r44 r45 r46 r47 r48 r49), iD r50], iD r51, iD r52, .one (.bool r53), .one (.bool r54), .one (.bool r55), .one (.bool r56), .tup [.agg [iD r57, iD r58], iD r59], .tup [.agg [iD r60, iD r61], iD r62], .tup [.agg [iD r63, iD r64], iD r65], .tup [.agg [iD r66, iD r67], iD r68]] [c_nn b5_, c_nn bq5_, c_nn bq5_, c_nn bq5_, c_nn bq5_, c_nn bq5_, c_bn bq10_, c_bn bq10_, c_bn bq10_, c_bn bq10_, c_bn bq10_, c_bn bq10_, c_bn bq10_, c_nn bq15_, c_bn bq38_, c_bn bq41_, c_bn bq41_, c_bn bq41_, c_bn bq41_, c_bn bq46_, c_bn bq46_, c_bn bq46_, c_bn bq46_, c_bn bq51_, c_bn bq51_, c_bn bq51_, c_bn bq51_, c_bn bq51_, c_bn bq51_, c_bn bq54_, c_bn bq54_, c_bn bq54_, c_bn bq54_, c_bn bq54_, c_bn bq54_, c_bn bq54_, c_nn bq59_, c_nn bq59_, c_nn bq59_, c_nn bq59_, c_nn bq59_, c_nn bq59_, c_nn bq59_, c_nn bq64_, c_nn bq64_, c_nn bq64_, c_nn bq64_, c_nn bq64_, c_nn bq64_, c_nn bq64_, c_nn bq69_, c_nn bq69_, c_nn bq69_, c_nn bq69_, c_nn bq69_, c_nn bq69_, c_nn bq69_, c_nn bq74_, c_bn bq85_, c_bn bq85_, c_bn bq85_, c_b bq86_, c_b bq86_, c_b bq86_, c_T, c_T, c_T, c_T, c_T, c_T, c_T, c_T, c_T, c_T, c_T, c_T, c_T, c_T] [k_c f1_, k_c fq1_, k_c fq6_, k_c fq11_, k_c fq16_, k_c fq18_, k_c fq20_, k_c fq22_, k_c fq24_, k_c fq26_, k_c fq28_, k_c fq42_, k_c fq47_, k_c fq55_, k_c fq60_, k_c fq65_, k_c fq70_, k_c fq75_, k_c fq77_, k_c fq79_, k_c fq81_] (by kernel_rfl)
  have hq87_ := (if_neg bq86_).symm.trans hq84_
  have bq88_ : r62 = (0 : Int) := by first | exact bq86_ | simpa using bq86_
  by_cases bq89_ : r65 ≠ (0 : Int)
  · have hq90_ := (if_pos bq89_).symm.trans hq87_
    obtain rfl := Option.some.inj hq90_
    exact con_pc (op := true) (I := [7]) (sp := law7_sp) 3000 (bF 64 (bT 14 [])) [.one (.bool r0), .one (.bool r1), iD r2, .one (.bool r3), .agg [iD r4, iD r5, iD r6, iD r7, iD r8, .list k9 c10], .agg [iD r11, iD r12, iD r13, iD r14, iD r15, .list k16 c17], .agg [iD r18, .list k19 c20], .tup [(shNL9_0 r21 r22 r23 r24 r25 r26 r27 r28 r29), iD r30], .agg [iD r31, iD r32, iD r33, iD r34, iD r35, .list k36 c37], .agg [iD r38, .list k39 c40], .tup [(shNL9_0 r41 r42 r43 r44 r45 r46 r47 r48 r49), iD r50], iD r51, iD r52, .one (.bool r53), .one (.bool r54), .one (.bool r55), .one (.bool r56), .tup [.agg [iD r57, iD r58], iD r59], .tup [.agg [iD r60, iD r61], iD r62], .tup [.agg [iD r63, iD r64], iD r65], .tup [.agg [iD r66, iD r67], iD r68]] [c_nn b5_, c_nn bq5_, c_nn bq5_, c_nn bq5_, c_nn bq5_, c_nn bq5_, c_bn bq10_, c_bn bq10_, c_bn bq10_, c_bn bq10_, c_bn bq10_, c_bn bq10_, c_bn bq10_, c_nn bq15_, c_bn bq38_, c_bn bq41_, c_bn bq41_, c_bn bq41_, c_bn bq41_, c_bn bq46_, c_bn bq46_, c_bn bq46_, c_bn bq46_, c_bn bq51_, c_bn bq51_, c_bn bq51_, c_bn bq51_, c_bn bq51_, c_bn bq51_, c_bn bq54_, c_bn bq54_, c_bn bq54_, c_bn bq54_, c_bn bq54_, c_bn bq54_, c_bn bq54_, c_nn bq59_, c_nn bq59_, c_nn bq59_, c_nn bq59_, c_nn bq59_, c_nn bq59_, c_nn bq59_, c_nn bq64_, c_nn bq64_, c_nn bq64_, c_nn bq64_, c_nn bq64_, c_nn bq64_, c_nn bq64_, c_nn bq69_, c_nn bq69_, c_nn bq69_, c_nn bq69_, c_nn bq69_, c_nn bq69_, c_nn bq69_, c_nn bq74_, c_bn bq85_, c_bn bq85_, c_bn bq85_, c_bn bq88_, c_bn bq88_, c_bn bq88_, c_b bq89_, c_b bq89_, c_b bq89_, c_T, c_T, c_T, c_T, c_T, c_T, c_T, c_T, c_T, c_T, c_T] [k_c f1_, k_c fq1_, k_c fq6_, k_c fq11_, k_c fq16_, k_c fq18_, k_c fq20_, k_c fq22_, k_c fq24_, k_c fq26_, k_c fq28_, k_c fq42_, k_c fq47_, k_c fq55_, k_c fq60_, k_c fq65_, k_c fq70_, k_c fq75_, k_c fq77_, k_c fq79_, k_c fq81_] (by kernel_rfl)
  have hq90_ := (if_neg bq89_).symm.trans hq87_
  have bq91_ : r65 = (0 : Int) := by first | exact bq89_ | simpa using bq89_
  by_cases bq92_ : r68 ≠ (0 : Int)
  · have hq93_ := (if_pos bq92_).symm.trans hq90_
    obtain rfl := Option.some.inj hq93_
    exact con_pc (op := true) (I := [7]) (sp := law7_sp) 3000 (bF 67 (bT 11 [])) [.one (.bool r0), .one (.bool r1), iD r2, .one (.bool r3), .agg [iD r4, iD r5, iD r6, iD r7, iD r8, .list k9 c10], .agg [iD r11, iD r12, iD r13, iD r14, iD r15, .list k16 c17], .agg [iD r18, .list k19 c20], .tup [(shNL9_0 r21 r22 r23 r24 r25 r26 r27 r28 r29), iD r30], .agg [iD r31, iD r32, iD r33, iD r34, iD r35, .list k36 c37], .agg [iD r38, .list k39 c40], .tup [(shNL9_0 r41 r42 r43 r44 r45 r46 r47 r48 r49), iD r50], iD r51, iD r52, .one (.bool r53), .one (.bool r54), .one (.bool r55), .one (.bool r56), .tup [.agg [iD r57, iD r58], iD r59], .tup [.agg [iD r60, iD r61], iD r62], .tup [.agg [iD r63, iD r64], iD r65], .tup [.agg [iD r66, iD r67], iD r68]] [c_nn b5_, c_nn bq5_, c_nn bq5_, c_nn bq5_, c_nn bq5_, c_nn bq5_, c_bn bq10_, c_bn bq10_, c_bn bq10_, c_bn bq10_, c_bn bq10_, c_bn bq10_, c_bn bq10_, c_nn bq15_, c_bn bq38_, c_bn bq41_, c_bn bq41_, c_bn bq41_, c_bn bq41_, c_bn bq46_, c_bn bq46_, c_bn bq46_, c_bn bq46_, c_bn bq51_, c_bn bq51_, c_bn bq51_, c_bn bq51_, c_bn bq51_, c_bn bq51_, c_bn bq54_, c_bn bq54_, c_bn bq54_, c_bn bq54_, c_bn bq54_, c_bn bq54_, c_bn bq54_, c_nn bq59_, c_nn bq59_, c_nn bq59_, c_nn bq59_, c_nn bq59_, c_nn bq59_, c_nn bq59_, c_nn bq64_, c_nn bq64_, c_nn bq64_, c_nn bq64_, c_nn bq64_, c_nn bq64_, c_nn bq64_, c_nn bq69_, c_nn bq69_, c_nn bq69_, c_nn bq69_, c_nn bq69_, c_nn bq69_, c_nn bq69_, c_nn bq74_, c_bn bq85_, c_bn bq85_, c_bn bq85_, c_bn bq88_, c_bn bq88_, c_bn bq88_, c_bn bq91_, c_bn bq91_, c_bn bq91_, c_b bq92_, c_b bq92_, c_b bq92_, c_b bq92_, c_b bq92_, c_T, c_T, c_T, c_T, c_T, c_T] [k_c f1_, k_c fq1_, k_c fq6_, k_c fq11_, k_c fq16_, k_c fq18_, k_c fq20_, k_c fq22_, k_c fq24_, k_c fq26_, k_c fq28_, k_c fq42_, k_c fq47_, k_c fq55_, k_c fq60_, k_c fq65_, k_c fq70_, k_c fq75_, k_c fq77_, k_c fq79_, k_c fq81_] (by kernel_rfl)
  have hq93_ := (if_neg bq92_).symm.trans hq90_
  have bq94_ : r68 = (0 : Int) := by first | exact bq92_ | simpa using bq92_
  obtain ⟨r69, fq95_, hq96_⟩ := pullD_elim hq93_
  replace fq95_ := m_34_ok fq95_
  by_cases bq97_ : r69 = false
  · have hq98_ := (if_pos bq97_).symm.trans hq96_
    obtain rfl := Option.some.inj hq98_
    exact con_pc (op := true) (I := [7]) (sp := law7_sp) 3000 (bF 72 (bT 6 [])) [.one (.bool r0), .one (.bool r1), iD r2, .one (.bool r3), .agg [iD r4, iD r5, iD r6, iD r7, iD r8, .list k9 c10], .agg [iD r11, iD r12, iD r13, iD r14, iD r15, .list k16 c17], .agg [iD r18, .list k19 c20], .tup [(shNL9_0 r21 r22 r23 r24 r25 r26 r27 r28 r29), iD r30], .agg [iD r31, iD r32, iD r33, iD r34, iD r35, .list k36 c37], .agg [iD r38, .list k39 c40], .tup [(shNL9_0 r41 r42 r43 r44 r45 r46 r47 r48 r49), iD r50], iD r51, iD r52, .one (.bool r53), .one (.bool r54), .one (.bool r55), .one (.bool r56), .tup [.agg [iD r57, iD r58], iD r59], .tup [.agg [iD r60, iD r61], iD r62], .tup [.agg [iD r63, iD r64], iD r65], .tup [.agg [iD r66, iD r67], iD r68], .one (.bool r69)] [c_nn b5_, c_nn bq5_, c_nn bq5_, c_nn bq5_, c_nn bq5_, c_nn bq5_, c_bn bq10_, c_bn bq10_, c_bn bq10_, c_bn bq10_, c_bn bq10_, c_bn bq10_, c_bn bq10_, c_nn bq15_, c_bn bq38_, c_bn bq41_, c_bn bq41_, c_bn bq41_, c_bn bq41_, c_bn bq46_, c_bn bq46_, c_bn bq46_, c_bn bq46_, c_bn bq51_, c_bn bq51_, c_bn bq51_, c_bn bq51_, c_bn bq51_, c_bn bq51_, c_bn bq54_, c_bn bq54_, c_bn bq54_, c_bn bq54_, c_bn bq54_, c_bn bq54_, c_bn bq54_, c_nn bq59_, c_nn bq59_, c_nn bq59_, c_nn bq59_, c_nn bq59_, c_nn bq59_, c_nn bq59_, c_nn bq64_, c_nn bq64_, c_nn bq64_, c_nn bq64_, c_nn bq64_, c_nn bq64_, c_nn bq64_, c_nn bq69_, c_nn bq69_, c_nn bq69_, c_nn bq69_, c_nn bq69_, c_nn bq69_, c_nn bq69_, c_nn bq74_, c_bn bq85_, c_bn bq85_, c_bn bq85_, c_bn bq88_, c_bn bq88_, c_bn bq88_, c_bn bq91_, c_bn bq91_, c_bn bq91_, c_bn bq94_, c_bn bq94_, c_bn bq94_, c_bn bq94_, c_bn bq94_, c_no bq97_, c_no bq97_, c_no bq97_, c_no bq97_, c_no bq97_, c_T] [k_c f1_, k_c fq1_, k_c fq6_, k_c fq11_, k_c fq16_, k_c fq18_, k_c fq20_, k_c fq22_, k_c fq24_, k_c fq26_, k_c fq28_, k_c fq42_, k_c fq47_, k_c fq55_, k_c fq60_, k_c fq65_, k_c fq70_, k_c fq75_, k_c fq77_, k_c fq79_, k_c fq81_, k_c fq95_] (by kernel_rfl)
  have hq98_ := (if_neg bq97_).symm.trans hq96_
  have bq99_ : r69 = true := by first | exact bq97_ | simpa using bq97_
  obtain ⟨r70, fq100_, hq101_⟩ := pullD_elim hq98_
  replace fq100_ := m_34_ok fq100_
  by_cases bq102_ : r70 = false
  · have hq103_ := (if_pos bq102_).symm.trans hq101_
    obtain rfl := Option.some.inj hq103_
    exact con_pc (op := true) (I := [7]) (sp := law7_sp) 3000 (bF 77 (bT 1 [])) [.one (.bool r0), .one (.bool r1), iD r2, .one (.bool r3), .agg [iD r4, iD r5, iD r6, iD r7, iD r8, .list k9 c10], .agg [iD r11, iD r12, iD r13, iD r14, iD r15, .list k16 c17], .agg [iD r18, .list k19 c20], .tup [(shNL9_0 r21 r22 r23 r24 r25 r26 r27 r28 r29), iD r30], .agg [iD r31, iD r32, iD r33, iD r34, iD r35, .list k36 c37], .agg [iD r38, .list k39 c40], .tup [(shNL9_0 r41 r42 r43 r44 r45 r46 r47 r48 r49), iD r50], iD r51, iD r52, .one (.bool r53), .one (.bool r54), .one (.bool r55), .one (.bool r56), .tup [.agg [iD r57, iD r58], iD r59], .tup [.agg [iD r60, iD r61], iD r62], .tup [.agg [iD r63, iD r64], iD r65], .tup [.agg [iD r66, iD r67], iD r68], .one (.bool r69), .one (.bool r70)] [c_nn b5_, c_nn bq5_, c_nn bq5_, c_nn bq5_, c_nn bq5_, c_nn bq5_, c_bn bq10_, c_bn bq10_, c_bn bq10_, c_bn bq10_, c_bn bq10_, c_bn bq10_, c_bn bq10_, c_nn bq15_, c_bn bq38_, c_bn bq41_, c_bn bq41_, c_bn bq41_, c_bn bq41_, c_bn bq46_, c_bn bq46_, c_bn bq46_, c_bn bq46_, c_bn bq51_, c_bn bq51_, c_bn bq51_, c_bn bq51_, c_bn bq51_, c_bn bq51_, c_bn bq54_, c_bn bq54_, c_bn bq54_, c_bn bq54_, c_bn bq54_, c_bn bq54_, c_bn bq54_, c_nn bq59_, c_nn bq59_, c_nn bq59_, c_nn bq59_, c_nn bq59_, c_nn bq59_, c_nn bq59_, c_nn bq64_, c_nn bq64_, c_nn bq64_, c_nn bq64_, c_nn bq64_, c_nn bq64_, c_nn bq64_, c_nn bq69_, c_nn bq69_, c_nn bq69_, c_nn bq69_, c_nn bq69_, c_nn bq69_, c_nn bq69_, c_nn bq74_, c_bn bq85_, c_bn bq85_, c_bn bq85_, c_bn bq88_, c_bn bq88_, c_bn bq88_, c_bn bq91_, c_bn bq91_, c_bn bq91_, c_bn bq94_, c_bn bq94_, c_bn bq94_, c_bn bq94_, c_bn bq94_, c_nn bq99_, c_nn bq99_, c_nn bq99_, c_nn bq99_, c_nn bq99_, c_no bq102_] [k_c f1_, k_c fq1_, k_c fq6_, k_c fq11_, k_c fq16_, k_c fq18_, k_c fq20_, k_c fq22_, k_c fq24_, k_c fq26_, k_c fq28_, k_c fq42_, k_c fq47_, k_c fq55_, k_c fq60_, k_c fq65_, k_c fq70_, k_c fq75_, k_c fq77_, k_c fq79_, k_c fq81_, k_c fq95_, k_c fq100_] (by kernel_rfl)
  have hq103_ := (if_neg bq102_).symm.trans hq101_
  have bq104_ : r70 = true := by first | exact bq102_ | simpa using bq102_
  obtain ⟨⟨r71, r72, r73, r74, r75, k76, c77⟩, fq105_, hq106_⟩ := pullD_elim hq103_
  replace fq105_ := m_13_ok fq105_
  obtain ⟨⟨r78, r79, r80⟩, fq107_, hq108_⟩ := pullD_elim hq106_
  replace fq107_ := m_37_ok fq107_
  obtain ⟨⟨r81, r82, r83, r84, r85, k86, c87⟩, fq109_, hq110_⟩ := pullD_elim hq108_
  replace fq109_ := m_13_ok fq109_
  obtain ⟨⟨r88, r89, r90⟩, fq111_, hq112_⟩ := pullD_elim hq110_
  replace fq111_ := m_37_ok fq111_
  by_cases bq113_ : r80 = r90
  · have hq114_ := (if_pos bq113_).symm.trans hq112_
    by_cases bq115_ : r80 = (8 : Int)
    · have hq116_ := (if_pos bq115_).symm.trans hq114_
      obtain rfl := Option.some.inj hq116_
      exact con_pc (op := true) (I := [7]) (sp := law7_sp) 3000 (bF 78 (bT 10 [])) [.one (.bool r0), .one (.bool r1), iD r2, .one (.bool r3), .agg [iD r4, iD r5, iD r6, iD r7, iD r8, .list k9 c10], .agg [iD r11, iD r12, iD r13, iD r14, iD r15, .list k16 c17], .agg [iD r18, .list k19 c20], .tup [(shNL9_0 r21 r22 r23 r24 r25 r26 r27 r28 r29), iD r30], .agg [iD r31, iD r32, iD r33, iD r34, iD r35, .list k36 c37], .agg [iD r38, .list k39 c40], .tup [(shNL9_0 r41 r42 r43 r44 r45 r46 r47 r48 r49), iD r50], iD r51, iD r52, .one (.bool r53), .one (.bool r54), .one (.bool r55), .one (.bool r56), .tup [.agg [iD r57, iD r58], iD r59], .tup [.agg [iD r60, iD r61], iD r62], .tup [.agg [iD r63, iD r64], iD r65], .tup [.agg [iD r66, iD r67], iD r68], .one (.bool r69), .one (.bool r70), .agg [iD r71, iD r72, iD r73, iD r74, iD r75, .list k76 c77], .tup [.agg [iD r78, iD r79], iD r80], .agg [iD r81, iD r82, iD r83, iD r84, iD r85, .list k86 c87], .tup [.agg [iD r88, iD r89], iD r90]] [c_nn b5_, c_nn bq5_, c_nn bq5_, c_nn bq5_, c_nn bq5_, c_nn bq5_, c_bn bq10_, c_bn bq10_, c_bn bq10_, c_bn bq10_, c_bn bq10_, c_bn bq10_, c_bn bq10_, c_nn bq15_, c_bn bq38_, c_bn bq41_, c_bn bq41_, c_bn bq41_, c_bn bq41_, c_bn bq46_, c_bn bq46_, c_bn bq46_, c_bn bq46_, c_bn bq51_, c_bn bq51_, c_bn bq51_, c_bn bq51_, c_bn bq51_, c_bn bq51_, c_bn bq54_, c_bn bq54_, c_bn bq54_, c_bn bq54_, c_bn bq54_, c_bn bq54_, c_bn bq54_, c_nn bq59_, c_nn bq59_, c_nn bq59_, c_nn bq59_, c_nn bq59_, c_nn bq59_, c_nn bq59_, c_nn bq64_, c_nn bq64_, c_nn bq64_, c_nn bq64_, c_nn bq64_, c_nn bq64_, c_nn bq64_, c_nn bq69_, c_nn bq69_, c_nn bq69_, c_nn bq69_, c_nn bq69_, c_nn bq69_, c_nn bq69_, c_nn bq74_, c_bn bq85_, c_bn bq85_, c_bn bq85_, c_bn bq88_, c_bn bq88_, c_bn bq88_, c_bn bq91_, c_bn bq91_, c_bn bq91_, c_bn bq94_, c_bn bq94_, c_bn bq94_, c_bn bq94_, c_bn bq94_, c_nn bq99_, c_nn bq99_, c_nn bq99_, c_nn bq99_, c_nn bq99_, c_nn bq104_, c_e bq113_, c_e bq113_, c_e bq113_, c_e bq115_, c_e bq115_, c_e bq115_, c_e bq115_, c_e bq113_, c_e bq115_, c_e bq113_] [k_c f1_, k_c fq1_, k_c fq6_, k_c fq11_, k_c fq16_, k_c fq18_, k_c fq20_, k_c fq22_, k_c fq24_, k_c fq26_, k_c fq28_, k_c fq42_, k_c fq47_, k_c fq55_, k_c fq60_, k_c fq65_, k_c fq70_, k_c fq75_, k_c fq77_, k_c fq79_, k_c fq81_, k_c fq95_, k_c fq100_, k_c fq105_, k_c fq107_, k_c fq109_, k_c fq111_] (by kernel_rfl)
    have hq116_ := (if_neg bq115_).symm.trans hq114_
    have bq117_ : r80 ≠ (8 : Int) := by first | exact bq115_ | simpa using bq115_
    by_cases bq118_ : r80 = (0 : Int)
    · have hq119_ := (if_pos bq118_).symm.trans hq116_
      obtain ⟨r91, fq120_, hq121_⟩ := pullD_elim hq119_
      replace fq120_ := m_34_ok fq120_
      obtain rfl := Option.some.inj hq121_
      exact con_pc (op := true) (I := [7]) (sp := law7_sp) 3000 (bF 78 (bT 3 (bF 3 (bT 3 (bF 1 (bT 2 (bF 1 (bT 1 [])))))))) [.one (.bool r0), .one (.bool r1), iD r2, .one (.bool r3), .agg [iD r4, iD r5, iD r6, iD r7, iD r8, .list k9 c10], .agg [iD r11, iD r12, iD r13, iD r14, iD r15, .list k16 c17], .agg [iD r18, .list k19 c20], .tup [(shNL9_0 r21 r22 r23 r24 r25 r26 r27 r28 r29), iD r30], .agg [iD r31, iD r32, iD r33, iD r34, iD r35, .list k36 c37], .agg [iD r38, .list k39 c40], .tup [(shNL9_0 r41 r42 r43 r44 r45 r46 r47 r48 r49), iD r50], iD r51, iD r52, .one (.bool r53), .one (.bool r54), .one (.bool r55), .one (.bool r56), .tup [.agg [iD r57, iD r58], iD r59], .tup [.agg [iD r60, iD r61], iD r62], .tup [.agg [iD r63, iD r64], iD r65], .tup [.agg [iD r66, iD r67], iD r68], .one (.bool r69), .one (.bool r70), .agg [iD r71, iD r72, iD r73, iD r74, iD r75, .list k76 c77], .tup [.agg [iD r78, iD r79], iD r80], .agg [iD r81, iD r82, iD r83, iD r84, iD r85, .list k86 c87], .tup [.agg [iD r88, iD r89], iD r90], .one (.bool r91)] [c_nn b5_, c_nn bq5_, c_nn bq5_, c_nn bq5_, c_nn bq5_, c_nn bq5_, c_bn bq10_, c_bn bq10_, c_bn bq10_, c_bn bq10_, c_bn bq10_, c_bn bq10_, c_bn bq10_, c_nn bq15_, c_bn bq38_, c_bn bq41_, c_bn bq41_, c_bn bq41_, c_bn bq41_, c_bn bq46_, c_bn bq46_, c_bn bq46_, c_bn bq46_, c_bn bq51_, c_bn bq51_, c_bn bq51_, c_bn bq51_, c_bn bq51_, c_bn bq51_, c_bn bq54_, c_bn bq54_, c_bn bq54_, c_bn bq54_, c_bn bq54_, c_bn bq54_, c_bn bq54_, c_nn bq59_, c_nn bq59_, c_nn bq59_, c_nn bq59_, c_nn bq59_, c_nn bq59_, c_nn bq59_, c_nn bq64_, c_nn bq64_, c_nn bq64_, c_nn bq64_, c_nn bq64_, c_nn bq64_, c_nn bq64_, c_nn bq69_, c_nn bq69_, c_nn bq69_, c_nn bq69_, c_nn bq69_, c_nn bq69_, c_nn bq69_, c_nn bq74_, c_bn bq85_, c_bn bq85_, c_bn bq85_, c_bn bq88_, c_bn bq88_, c_bn bq88_, c_bn bq91_, c_bn bq91_, c_bn bq91_, c_bn bq94_, c_bn bq94_, c_bn bq94_, c_bn bq94_, c_bn bq94_, c_nn bq99_, c_nn bq99_, c_nn bq99_, c_nn bq99_, c_nn bq99_, c_nn bq104_, c_e bq113_, c_e bq113_, c_e bq113_, c_en bq117_, c_en bq117_, c_en bq117_, c_e bq118_, c_e bq118_, c_e bq118_, c_en bq117_, c_e bq118_, c_e bq113_, c_en bq117_, c_e bq113_] [k_c f1_, k_c fq1_, k_c fq6_, k_c fq11_, k_c fq16_, k_c fq18_, k_c fq20_, k_c fq22_, k_c fq24_, k_c fq26_, k_c fq28_, k_c fq42_, k_c fq47_, k_c fq55_, k_c fq60_, k_c fq65_, k_c fq70_, k_c fq75_, k_c fq77_, k_c fq79_, k_c fq81_, k_c fq95_, k_c fq100_, k_c fq105_, k_c fq107_, k_c fq109_, k_c fq111_, k_c fq120_] (by kernel_rfl)
    have hq119_ := (if_neg bq118_).symm.trans hq116_
    have bq122_ : r80 ≠ (0 : Int) := by first | exact bq118_ | simpa using bq118_
    obtain rfl := Option.some.inj hq119_
    exact con_pc (op := true) (I := [7]) (sp := law7_sp) 3000 (bF 78 (bT 3 (bF 8 (bT 1 (bF 1 (bT 1 [])))))) [.one (.bool r0), .one (.bool r1), iD r2, .one (.bool r3), .agg [iD r4, iD r5, iD r6, iD r7, iD r8, .list k9 c10], .agg [iD r11, iD r12, iD r13, iD r14, iD r15, .list k16 c17], .agg [iD r18, .list k19 c20], .tup [(shNL9_0 r21 r22 r23 r24 r25 r26 r27 r28 r29), iD r30], .agg [iD r31, iD r32, iD r33, iD r34, iD r35, .list k36 c37], .agg [iD r38, .list k39 c40], .tup [(shNL9_0 r41 r42 r43 r44 r45 r46 r47 r48 r49), iD r50], iD r51, iD r52, .one (.bool r53), .one (.bool r54), .one (.bool r55), .one (.bool r56), .tup [.agg [iD r57, iD r58], iD r59], .tup [.agg [iD r60, iD r61], iD r62], .tup [.agg [iD r63, iD r64], iD r65], .tup [.agg [iD r66, iD r67], iD r68], .one (.bool r69), .one (.bool r70), .agg [iD r71, iD r72, iD r73, iD r74, iD r75, .list k76 c77], .tup [.agg [iD r78, iD r79], iD r80], .agg [iD r81, iD r82, iD r83, iD r84, iD r85, .list k86 c87], .tup [.agg [iD r88, iD r89], iD r90]] [c_nn b5_, c_nn bq5_, c_nn bq5_, c_nn bq5_, c_nn bq5_, c_nn bq5_, c_bn bq10_, c_bn bq10_, c_bn bq10_, c_bn bq10_, c_bn bq10_, c_bn bq10_, c_bn bq10_, c_nn bq15_, c_bn bq38_, c_bn bq41_, c_bn bq41_, c_bn bq41_, c_bn bq41_, c_bn bq46_, c_bn bq46_, c_bn bq46_, c_bn bq46_, c_bn bq51_, c_bn bq51_, c_bn bq51_, c_bn bq51_, c_bn bq51_, c_bn bq51_, c_bn bq54_, c_bn bq54_, c_bn bq54_, c_bn bq54_, c_bn bq54_, c_bn bq54_, c_bn bq54_, c_nn bq59_, c_nn bq59_, c_nn bq59_, c_nn bq59_, c_nn bq59_, c_nn bq59_, c_nn bq59_, c_nn bq64_, c_nn bq64_, c_nn bq64_, c_nn bq64_, c_nn bq64_, c_nn bq64_, c_nn bq64_, c_nn bq69_, c_nn bq69_, c_nn bq69_, c_nn bq69_, c_nn bq69_, c_nn bq69_, c_nn bq69_, c_nn bq74_, c_bn bq85_, c_bn bq85_, c_bn bq85_, c_bn bq88_, c_bn bq88_, c_bn bq88_, c_bn bq91_, c_bn bq91_, c_bn bq91_, c_bn bq94_, c_bn bq94_, c_bn bq94_, c_bn bq94_, c_bn bq94_, c_nn bq99_, c_nn bq99_, c_nn bq99_, c_nn bq99_, c_nn bq99_, c_nn bq104_, c_e bq113_, c_e bq113_, c_e bq113_, c_en bq117_, c_en bq117_, c_en bq117_, c_en bq122_, c_en bq122_, c_en bq122_, c_en bq117_, c_en bq122_, c_e bq113_, c_en bq117_, c_e bq113_] [k_c f1_, k_c fq1_, k_c fq6_, k_c fq11_, k_c fq16_, k_c fq18_, k_c fq20_, k_c fq22_, k_c fq24_, k_c fq26_, k_c fq28_, k_c fq42_, k_c fq47_, k_c fq55_, k_c fq60_, k_c fq65_, k_c fq70_, k_c fq75_, k_c fq77_, k_c fq79_, k_c fq81_, k_c fq95_, k_c fq100_, k_c fq105_, k_c fq107_, k_c fq109_, k_c fq111_] (by kernel_rfl)
  have hq114_ := (if_neg bq113_).symm.trans hq112_
  have bq123_ : r80 ≠ r90 := by first | exact bq113_ | simpa using bq113_
  obtain rfl := Option.some.inj hq114_
  exact con_pc (op := true) (I := [7]) (sp := law7_sp) 3000 (bF 83 []) [.one (.bool r0), .one (.bool r1), iD r2, .one (.bool r3), .agg [iD r4, iD r5, iD r6, iD r7, iD r8, .list k9 c10], .agg [iD r11, iD r12, iD r13, iD r14, iD r15, .list k16 c17], .agg [iD r18, .list k19 c20], .tup [(shNL9_0 r21 r22 r23 r24 r25 r26 r27 r28 r29), iD r30], .agg [iD r31, iD r32, iD r33, iD r34, iD r35, .list k36 c37], .agg [iD r38, .list k39 c40], .tup [(shNL9_0 r41 r42 r43 r44 r45 r46 r47 r48 r49), iD r50], iD r51, iD r52, .one (.bool r53), .one (.bool r54), .one (.bool r55), .one (.bool r56), .tup [.agg [iD r57, iD r58], iD r59], .tup [.agg [iD r60, iD r61], iD r62], .tup [.agg [iD r63, iD r64], iD r65], .tup [.agg [iD r66, iD r67], iD r68], .one (.bool r69), .one (.bool r70), .agg [iD r71, iD r72, iD r73, iD r74, iD r75, .list k76 c77], .tup [.agg [iD r78, iD r79], iD r80], .agg [iD r81, iD r82, iD r83, iD r84, iD r85, .list k86 c87], .tup [.agg [iD r88, iD r89], iD r90]] [c_nn b5_, c_nn bq5_, c_nn bq5_, c_nn bq5_, c_nn bq5_, c_nn bq5_, c_bn bq10_, c_bn bq10_, c_bn bq10_, c_bn bq10_, c_bn bq10_, c_bn bq10_, c_bn bq10_, c_nn bq15_, c_bn bq38_, c_bn bq41_, c_bn bq41_, c_bn bq41_, c_bn bq41_, c_bn bq46_, c_bn bq46_, c_bn bq46_, c_bn bq46_, c_bn bq51_, c_bn bq51_, c_bn bq51_, c_bn bq51_, c_bn bq51_, c_bn bq51_, c_bn bq54_, c_bn bq54_, c_bn bq54_, c_bn bq54_, c_bn bq54_, c_bn bq54_, c_bn bq54_, c_nn bq59_, c_nn bq59_, c_nn bq59_, c_nn bq59_, c_nn bq59_, c_nn bq59_, c_nn bq59_, c_nn bq64_, c_nn bq64_, c_nn bq64_, c_nn bq64_, c_nn bq64_, c_nn bq64_, c_nn bq64_, c_nn bq69_, c_nn bq69_, c_nn bq69_, c_nn bq69_, c_nn bq69_, c_nn bq69_, c_nn bq69_, c_nn bq74_, c_bn bq85_, c_bn bq85_, c_bn bq85_, c_bn bq88_, c_bn bq88_, c_bn bq88_, c_bn bq91_, c_bn bq91_, c_bn bq91_, c_bn bq94_, c_bn bq94_, c_bn bq94_, c_bn bq94_, c_bn bq94_, c_nn bq99_, c_nn bq99_, c_nn bq99_, c_nn bq99_, c_nn bq99_, c_nn bq104_, c_en bq123_, c_en bq123_, c_en bq123_, c_en bq123_, c_en bq123_] [k_c f1_, k_c fq1_, k_c fq6_, k_c fq11_, k_c fq16_, k_c fq18_, k_c fq20_, k_c fq22_, k_c fq24_, k_c fq26_, k_c fq28_, k_c fq42_, k_c fq47_, k_c fq55_, k_c fq60_, k_c fq65_, k_c fq70_, k_c fq75_, k_c fq77_, k_c fq79_, k_c fq81_, k_c fq95_, k_c fq100_, k_c fq105_, k_c fq107_, k_c fq109_, k_c fq111_] (by kernel_rfl)
theorem law7_M_ok (re fa fb fc fd : Int) (k : Nat) (c : List D) (st : Int) (kb : Nat) (cb : List D) (more : Int) {r : D} (h : law7_M re fa fb fc fd k c st kb cb more = some r) : Con 7 [.agg [iD re, iD fa, iD fb, iD fc, iD fd, .list k c], .agg [iD st, .list kb cb], iD more] r := by
  unfold law7_M at h
  obtain ⟨r0, f1_, h2_⟩ := pullD_elim h
  replace f1_ := m_9_ok f1_
  by_cases b3_ : r0 = false
  · have h4_ := (if_pos b3_).symm.trans h2_
    obtain rfl := Option.some.inj h4_
    exact con_pc (op := true) (I := [7]) (sp := law7_sp) 3000 (bT 1 []) [.one (.bool r0)] [c_no b3_] [k_c f1_] (by kernel_rfl)
  have h4_ := (if_neg b3_).symm.trans h2_
  have b5_ : r0 = true := by first | exact b3_ | simpa using b3_
  exact law7_M_s0_ok re fa fb fc fd k c st kb cb more r0 f1_ b5_ h4_
def m_7 (ds : List D) : Option D := pullD (α := Int × Int × Int × Int × Int × Nat × (List D) × Int × Nat × (List D) × Int) (some (.tup ds)) (fun d => ((D.vi (D.at (D.at d 0) 0)), (D.vi (D.at (D.at d 0) 1)), (D.vi (D.at (D.at d 0) 2)), (D.vi (D.at (D.at d 0) 3)), (D.vi (D.at (D.at d 0) 4)), (D.ln (D.at (D.at d 0) 5)), (D.lc (D.at (D.at d 0) 5)), (D.vi (D.at (D.at d 1) 0)), (D.ln (D.at (D.at d 1) 1)), (D.lc (D.at (D.at d 1) 1)), (D.vi (D.at d 2)))) (fun (re, fa, fb, fc, fd, k, c, st, kb, cb, more) => .tup [.agg [iD re, iD fa, iD fb, iD fc, iD fd, .list k c], .agg [iD st, .list kb cb], iD more]) fun (re, fa, fb, fc, fd, k, c, st, kb, cb, more) => law7_M re fa fb fc fd k c st kb cb more
theorem m_7_ok {ds : List D} {r : D} (h : m_7 ds = some r) : Con 7 ds r := by
  unfold m_7 at h
  obtain ⟨⟨re, fa, fb, fc, fd, k, c, st, kb, cb, more⟩, e0, h0⟩ := pullD_elim h
  obtain rfl := tup_inj e0
  exact law7_M_ok re fa fb fc fd k c st kb cb more h0
theorem m_7_eq (re fa fb fc fd : Int) (k : Nat) (c : List D) (st : Int) (kb : Nat) (cb : List D) (more : Int) : m_7 [.agg [iD re, iD fa, iD fb, iD fc, iD fd, .list k c], .agg [iD st, .list kb cb], iD more] = law7_M re fa fb fc fd k c st kb cb more := pullD_some (re, fa, fb, fc, fd, k, c, st, kb, cb, more) rfl rfl
end
end Go.Proofs.Ytmohaohdbklkeaa
namespace Go.Proofs.Ytmohaohdbklkeaa
open Go.Ev Go.RowKit
set_option maxRecDepth 100000
set_option maxHeartbeats 8000000
set_option linter.all false
noncomputable section
end
end Go.Proofs.Ytmohaohdbklkeaa
/- Rules, records: what is checked. -/
namespace Go.Proofs.Ytmohaohdbklkeaa
open Go.Ev Go.RowKit
set_option maxRecDepth 100000
def firstV : List Int → Int
  | [] => 0
  | x :: l => if x = 0 then firstV l else x
theorem first_go (k : Nat) : ∀ (pre l : List Int), k = (pre ++ l).length → k ≤ 1000000 → (∀ x ∈ pre, x = 0) →
    runR (firstOf_L2_S k ((pre ++ l).map iD)) (.next 0 [iD (pre.length : Int)]) = some (if firstV l = 0 then .out 0 [] else .out 1 [iD (firstV l)]) := by
  intro pre l
  induction l generalizing pre with
  | nil =>
    intro hk _ _
    rw [List.append_nil] at hk ⊢
    refine runR_exit ?_
    show firstOf_L2_S0 _ _ _ = _
    unfold firstOf_L2_S0
    rw [pullD_some (pre.length : Int) (by rfl) (by rfl), if_neg (by omega)]
  | cons x l ih =>
    intro hk hs hp
    have hg : (pre ++ x :: l)[pre.length]? = some x := by simp
    have hlt : pre.length < k := by rw [hk, List.length_append, List.length_cons]; omega
    by_cases hx : x = 0
    · have st : firstOf_L2_S k ((pre ++ x :: l).map iD) (.next 0 [iD (pre.length : Int)]) = some (.next 0 [iD (((pre ++ [x]).length : Nat) : Int)]) := by
        show firstOf_L2_S0 _ _ _ = _
        unfold firstOf_L2_S0
        rw [pullD_some (pre.length : Int) (by rfl) (by rfl), if_pos (by omega), guardP_pos (by omega), readW hg, pullI, if_neg (by simp [hx]), wrapJ _ (by omega) (by omega), List.length_append, List.length_singleton]
        rfl
      have h2 := ih (pre ++ [x]) (by rw [hk]; simp) hs (fun y hy => by
        rcases List.mem_append.1 hy with h | h
        · exact hp y h
        · simp at h; rw [h]; exact hx)
      rw [List.append_assoc, List.singleton_append] at h2
      rw [runR_next st, h2]
      simp [firstV, hx]
    · refine (runR_exit (j := 1) (es := [iD x]) ?_).trans ?_
      · show firstOf_L2_S0 _ _ _ = _
        unfold firstOf_L2_S0
        rw [pullD_some (pre.length : Int) (by rfl) (by rfl), if_pos (by omega), guardP_pos (by omega), readW hg, pullI, if_pos hx]
      · simp [firstV, hx]
theorem firstOf_eq (l : List Int) (hl : l.length ≤ 1000000) : m_45 [lD l] = some (iD (firstV l)) := by
  have h := first_go l.length [] l rfl hl (fun _ h => by cases h)
  simp only [List.nil_append, List.length_nil] at h
  have h : runR (firstOf_L2_S l.length (l.map iD)) (.next 0 [.one (.int .i64 0)]) = some (if firstV l = 0 then .out 0 [] else .out 1 [iD (firstV l)]) := h
  rw [m_45_eq]
  unfold firstOf_M
  by_cases h0 : firstV l = 0
  · rw [if_pos h0] at h
    rw [bindL_some h, if_pos rfl, pullD_some () (by rfl) (by rfl), h0]
  · rw [if_neg h0] at h
    rw [bindL_some h, if_neg (by decide), if_pos rfl, pullD_some (firstV l) (by rfl) (by rfl)]
theorem f2 (x y : Int) : m_45 [.list 2 [iD x, iD y]] = some (iD (firstV [x, y])) := firstOf_eq [x, y] (by simp)
theorem f3 (x y z : Int) : m_45 [.list 3 [iD x, iD y, iD z]] = some (iD (firstV [x, y, z])) := firstOf_eq [x, y, z] (by simp)
theorem within_eq (n lo hi : Int) : m_33 [iD n, iD lo, iD hi] = some (.one (.bool (decide (lo ≤ n ∧ n ≤ hi)))) := by
  rw [m_33_eq]
  unfold within_M
  by_cases h : lo ≤ n
  · rw [if_pos h]; simp [h]
  · rw [if_neg h]; simp [h]
def stepE (n : Int) : Int := if 1 ≤ n ∧ n ≤ 1000000 then 0 else 2
theorem chkStep_eq (n : Int) : m_74 [iD n] = some (iD (stepE n)) := by
  rw [m_74_eq]
  unfold chkStep_M stepE
  repeat' split
  all_goals first | rfl | (exfalso; omega)
/-- Where the division with a remainder ends. -/
def eu (a b : Int) : Int := if h : b = 0 then a else eu b (a.tmod b)
termination_by b.natAbs
decreasing_by
  rw [Int.natAbs_tmod]
  exact Nat.mod_lt _ (by omega)
theorem eu_zero (a : Int) : eu a 0 = a := by unfold eu; simp
theorem eu_step {a b : Int} (h : b ≠ 0) : eu a b = eu b (a.tmod b) := by
  conv => lhs; unfold eu
  rw [dif_neg h]
theorem eu_gcd (a b : Int) : (eu a b).natAbs = Int.gcd a b := by
  generalize hk : b.natAbs = k
  induction k using Nat.strongRecOn generalizing a b with
  | ind k ih =>
    by_cases h : b = 0
    · subst h; rw [eu_zero]; simp
    · have hlt : (a.tmod b).natAbs < b.natAbs := by rw [Int.natAbs_tmod]; exact Nat.mod_lt _ (by omega)
      rw [eu_step h, ih _ (by omega) b (a.tmod b) rfl]
      show Nat.gcd b.natAbs (a.tmod b).natAbs = Nat.gcd a.natAbs b.natAbs
      rw [Int.natAbs_tmod, Nat.gcd_comm a.natAbs, Nat.gcd_rec b.natAbs a.natAbs, Nat.gcd_comm]
def absW (r : Int) : Int := if IntKind.i64.wrap (0 - r) > r then IntKind.i64.wrap (0 - r) else r
theorem absW_eq {r : Int} (h : r.natAbs < 9223372036854775808) : absW r = (r.natAbs : Int) := by
  unfold absW
  rw [wrapJ _ (by omega) (by omega)]
  split <;> omega
theorem div_go (x y : Int) : ∀ (k : Nat) (a b : Int), b.natAbs ≤ k → runR (divisor_L1_S x y) (.next 0 [iD a, iD b]) = some (.out 0 [iD (eu a b)]) := by
  intro k
  induction k with
  | zero =>
    intro a b h
    have hb : b = 0 := by omega
    subst hb
    refine runR_exit ?_
    show divisor_L1_S0 x y _ = _
    unfold divisor_L1_S0
    rw [pullD_some (a, (0 : Int)) (by rfl) (by rfl)]
    dsimp only
    rw [if_neg (by simp), eu_zero]
  | succ k ih =>
    intro a b h
    by_cases hb : b = 0
    · exact ih a b (by omega)
    · have st : divisor_L1_S x y (.next 0 [iD a, iD b]) = some (.next 0 [iD b, iD (a.tmod b)]) := by
        show divisor_L1_S0 x y _ = _
        unfold divisor_L1_S0
        rw [pullD_some (a, b) (by rfl) (by rfl)]
        dsimp only
        rw [if_pos hb]
      have hlt : (a.tmod b).natAbs < b.natAbs := by rw [Int.natAbs_tmod]; exact Nat.mod_lt _ (by omega)
      rw [runR_next st, ih b (a.tmod b) (by omega), ← eu_step hb]
theorem divisor_eq (a b : Int) : m_102 [iD a, iD b] = some (iD (absW (eu a b))) := by
  rw [m_102_eq]
  unfold divisor_M
  rw [div_go a b b.natAbs a b (Nat.le_refl _), bindL_some rfl, if_pos rfl, pullD_some (eu a b) (by rfl) (by rfl)]
  rfl
theorem gcd_loop (x y : Int) : ∀ (k : Nat) (a b : Int), b.natAbs ≤ k → runR (gcd_L1_S x y) (.next 0 [iD a, iD b]) = some (.out 0 [iD (eu a b)]) := by
  intro k
  induction k with
  | zero =>
    intro a b h
    have hb : b = 0 := by omega
    subst hb
    refine runR_exit ?_
    show gcd_L1_S0 x y _ = _
    unfold gcd_L1_S0
    rw [pullD_some (a, (0 : Int)) (by rfl) (by rfl)]
    dsimp only
    rw [if_neg (by simp), eu_zero]
  | succ k ih =>
    intro a b h
    by_cases hb : b = 0
    · exact ih a b (by omega)
    · have st : gcd_L1_S x y (.next 0 [iD a, iD b]) = some (.next 0 [iD b, iD (a.tmod b)]) := by
        show gcd_L1_S0 x y _ = _
        unfold gcd_L1_S0
        rw [pullD_some (a, b) (by rfl) (by rfl)]
        dsimp only
        rw [if_pos hb]
      have hlt : (a.tmod b).natAbs < b.natAbs := by rw [Int.natAbs_tmod]; exact Nat.mod_lt _ (by omega)
      rw [runR_next st, ih b (a.tmod b) (by omega), ← eu_step hb]
theorem gcdI_eq (a b : Int) : m_100 [iD a, iD b] = some (iD (absW (eu a b))) := by
  rw [m_100_eq]
  unfold gcd_M
  rw [gcd_loop a b b.natAbs a b (Nat.le_refl _), bindL_some rfl, if_pos rfl, pullD_some (eu a b) (by rfl) (by rfl), m_103_eq]
  unfold size_M
  rw [pullI]
  rfl
theorem absW_gcd {a b : Int} (h : 0 < b) (h2 : b < 9223372036854775808) : absW (eu a b) = ((Int.gcd a b : Nat) : Int) := by
  have h1 : Int.gcd a b ≤ b.natAbs := Nat.le_of_dvd (by omega) (Int.gcd_dvd_natAbs_right a b)
  rw [absW_eq (by rw [eu_gcd]; omega), eu_gcd]
theorem gv2 (x : Int) : firstV [2, x] = 2 := rfl
theorem gv0 (x : Int) : firstV [0, x] = x := by
  unfold firstV firstV
  simp only [if_true]
  split
  · rename_i h; rw [h]; rfl
  · rfl
theorem n2 : ((2 : Int) ≠ 0) = True := by decide
theorem n9 : ((9 : Int) ≠ 0) = True := by decide
theorem n0 : ((0 : Int) ≠ 0) = False := by decide
def lowB (n d : Int) : Bool := decide (0 < d ∧ absW (eu n d) = 1)
theorem isLowest_eq (n d : Int) : m_97 [.agg [iD n, iD d]] = some (.one (.bool (lowB n d))) := by
  rw [m_97_eq]
  unfold isLowest_M lowB
  by_cases h : d > 0
  · rw [if_pos h, gcdI_eq, pullI]
    congr 3
    rw [Bool.eq_iff_iff]; simp [show 0 < d from h]
  · rw [if_neg h]
    congr 3
    rw [Bool.eq_iff_iff]; simp [show ¬ 0 < d from h]
theorem isReduced_eq (n d : Int) : m_94 [.agg [iD n, iD d]] = some (.one (.bool (lowB n d))) := by
  rw [m_94_eq]
  unfold isReduced_M lowB
  by_cases h : d > 0
  · rw [if_pos h, divisor_eq, pullI]
    congr 3
    rw [Bool.eq_iff_iff]; simp [show 0 < d from h]
  · rw [if_neg h]
    congr 3
    rw [Bool.eq_iff_iff]; simp [show ¬ 0 < d from h]
theorem lowB_pos {n d : Int} (h : lowB n d = true) : 0 < d := by
  unfold lowB at h
  simp only [decide_eq_true_eq] at h
  exact h.1
def facR (x : Q4) : Prop := 1 ≤ x.a ∧ x.a ≤ 1000 ∧ 1 ≤ x.b ∧ x.b ≤ 1000 ∧ 1 ≤ x.c ∧ x.c ≤ 1000 ∧ 1 ≤ x.d ∧ x.d ≤ 1000
instance (x : Q4) : Decidable (facR x) := by unfold facR; infer_instance
/-- Why a factor is refused. -/
def facE (x : Q4) : Int := if lowB x.a x.b = true ∧ lowB x.c x.d = true then (if facR x then (if x.a * x.d ≤ x.c * x.b then 0 else 9) else 2) else 3
theorem mulK {x y : Int} (h1 : 1 ≤ x) (h2 : x ≤ 1000) (h3 : 1 ≤ y) (h4 : y ≤ 1000) : 0 ≤ x * y ∧ x * y ≤ 1000000 := ⟨Int.mul_nonneg (by omega) (by omega), by
  have := Int.mul_le_mul h2 h4 (by omega) (by omega : (0 : Int) ≤ 1000)
  omega⟩
theorem isLess_eq {n d m e : Int} (h1 : 0 ≤ n * e) (h2 : n * e ≤ 1000000) (h3 : 0 ≤ m * d) (h4 : m * d ≤ 1000000) : m_95 [.agg [iD n, iD d], .agg [iD m, iD e]] = some (.one (.bool (decide (n * e < m * d)))) := by
  rw [m_95_eq]
  unfold isLess_M
  rw [wrapJ (n * e) (by omega) (by omega), wrapJ (m * d) (by omega) (by omega)]
theorem cmpI_eq {n d m e : Int} (h1 : 0 ≤ n * e) (h2 : n * e ≤ 1000000) (h3 : 0 ≤ m * d) (h4 : m * d ≤ 1000000) : m_39 [.agg [iD n, iD d], .agg [iD m, iD e]] = some (iD (if n * e < m * d then -1 else if n * e > m * d then 1 else 0)) := by
  rw [m_39_eq]
  unfold cmpI_M
  rw [wrapJ (n * e) (by omega) (by omega), wrapJ (m * d) (by omega) (by omega)]
  repeat' split
  all_goals rfl
theorem facE3 {x : Q4} (h : lowB x.a x.b = false ∨ lowB x.c x.d = false) : facE x = 3 := by
  unfold facE
  rw [if_neg]
  rcases h with h | h <;> simp [h]
theorem facE2 {x : Q4} (h1 : lowB x.a x.b = true) (h2 : lowB x.c x.d = true) (h : ¬ facR x) : facE x = 2 := by
  unfold facE
  rw [if_pos ⟨h1, h2⟩, if_neg h]
theorem chkFactor_eq (p q u v : Int) : m_73 [.agg [iD p, iD q, iD u, iD v]] = some (iD (facE ⟨p, q, u, v⟩)) := by
  rw [m_73_eq]
  unfold chkFactor_M
  rw [isReduced_eq, pullB, isReduced_eq, pullB]
  cases b1 : lowB p q with
  | false => rw [if_pos rfl, facE3 (.inl b1)]
  | true =>
    rw [if_neg (by decide)]
    cases b2 : lowB u v with
    | false => rw [if_pos rfl, facE3 (.inr b2)]
    | true =>
      rw [if_neg (by decide)]
      by_cases g : facR ⟨p, q, u, v⟩
      · have g' := g
        unfold facR at g'
        simp only at g'
        obtain ⟨k1, k2⟩ := mulK (x := p) (y := v) (by omega) (by omega) (by omega) (by omega)
        obtain ⟨k3, k4⟩ := mulK (x := u) (y := q) (by omega) (by omega) (by omega) (by omega)
        rw [if_neg (by omega), if_neg (by omega), if_neg (by omega), if_neg (by omega), if_neg (by omega), if_neg (by omega), if_neg (by omega), if_neg (by omega), isLess_eq k3 k4 k1 k2, pullB]
        have hE : facE ⟨p, q, u, v⟩ = if p * v ≤ u * q then 0 else 9 := by
          unfold facE
          rw [if_pos ⟨b1, b2⟩, if_pos g]
        rw [hE]
        by_cases o : p * v ≤ u * q
        · rw [if_pos o, if_neg (by simp; omega)]
        · rw [if_neg o, if_pos (by simp; omega)]
      · rw [facE2 b1 b2 g]
        unfold facR at g
        simp only at g
        by_cases q0 : p < 1
        · rw [if_pos q0]
        rw [if_neg q0]
        by_cases q1 : p > 1000
        · rw [if_pos q1]
        rw [if_neg q1]
        by_cases q2 : q < 1
        · rw [if_pos q2]
        rw [if_neg q2]
        by_cases q3 : q > 1000
        · rw [if_pos q3]
        rw [if_neg q3]
        by_cases q4 : u < 1
        · rw [if_pos q4]
        rw [if_neg q4]
        by_cases q5 : u > 1000
        · rw [if_pos q5]
        rw [if_neg q5]
        by_cases q6 : v < 1
        · rw [if_pos q6]
        rw [if_neg q6, if_pos (by omega)]
theorem facErr_eq (p q u v : Int) : m_83 [.agg [iD p, iD q, iD u, iD v]] = some (iD (facE ⟨p, q, u, v⟩)) := by
  rw [m_83_eq]
  unfold facErr_M
  rw [isLowest_eq, pullB, isLowest_eq, pullB, within_eq, pullB, within_eq, pullB]
  cases b1 : lowB p q with
  | false => rw [if_pos rfl, facE3 (.inl b1)]
  | true =>
    rw [if_neg (by decide)]
    cases b2 : lowB u v with
    | false => rw [if_pos rfl, facE3 (.inr b2)]
    | true =>
      have hq := lowB_pos b1
      have hv := lowB_pos b2
      rw [if_neg (by decide)]
      by_cases g : facR ⟨p, q, u, v⟩
      · have g' := g
        unfold facR at g'
        simp only at g'
        obtain ⟨k1, k2⟩ := mulK (x := p) (y := v) (by omega) (by omega) (by omega) (by omega)
        obtain ⟨k3, k4⟩ := mulK (x := u) (y := q) (by omega) (by omega) (by omega) (by omega)
        rw [if_neg (by simp; omega), if_neg (by simp; omega), if_neg (by omega), if_neg (by omega), cmpI_eq k1 k2 k3 k4, pullI]
        have hE : facE ⟨p, q, u, v⟩ = if p * v ≤ u * q then 0 else 9 := by
          unfold facE
          rw [if_pos ⟨b1, b2⟩, if_pos g]
        rw [hE]
        by_cases o : p * v ≤ u * q
        · rw [if_pos (c := p * v ≤ u * q) o, if_neg]
          split
          · decide
          · rw [if_neg (by omega)]; decide
        · rw [if_neg (c := p * v ≤ u * q) o, if_neg (c := p * v < u * q) (by omega), if_pos (c := p * v > u * q) (by omega), if_pos (by decide)]
      · rw [facE2 b1 b2 g]
        unfold facR at g
        simp only at g
        by_cases q0 : 1 ≤ p ∧ p ≤ 1000
        · rw [if_neg (by simp; omega)]
          by_cases q1 : 1 ≤ u ∧ u ≤ 1000
          · rw [if_neg (by simp; omega)]
            by_cases q2 : q > 1000
            · rw [if_pos q2]
            rw [if_neg q2, if_pos (by omega)]
          · rw [if_pos (by simp; omega)]
        · rw [if_pos (by simp; omega)]
def fstE (e : Nat → Int) : Nat → Nat → Int
  | 0, _ => 0
  | m + 1, i => if e i = 0 then fstE e m (i + 1) else e i
theorem scanF {n : Nat} {e : Nat → Int} {S : Rd → Option Rd} (hs : ∀ i, i < n → S (.next 0 [iD (i : Int)]) = if e i = 0 then some (.next 0 [iD ((i + 1 : Nat) : Int)]) else some (.out 1 [iD (e i)])) (he : S (.next 0 [iD (n : Int)]) = some (.out 0 [])) :
    ∀ m i, i + m = n → runR S (.next 0 [iD (i : Int)]) = if fstE e m i = 0 then some (.out 0 []) else some (.out 1 [iD (fstE e m i)]) := by
  intro m
  induction m with
  | zero =>
    intro i hi
    have : i = n := by omega
    subst this
    rw [runR_exit he]; rfl
  | succ m ih =>
    intro i hi
    have h1 := hs i (by omega)
    unfold fstE
    by_cases h0 : e i = 0
    · rw [if_pos h0] at h1
      rw [runR_next h1, ih (i + 1) (by omega), if_pos h0]
    · rw [if_neg h0] at h1
      rw [runR_exit h1, if_neg h0, if_neg h0]
theorem fstE_zero {e : Nat → Int} : ∀ {m i : Nat}, fstE e m i = 0 → ∀ j, i ≤ j → j < i + m → e j = 0
  | 0, i, _, j, h1, h2 => by omega
  | m + 1, i, h, j, h1, h2 => by
    unfold fstE at h
    split at h
    · rename_i h0
      rcases Nat.lt_or_ge i j with h3 | h3
      · exact fstE_zero h j (by omega) (by omega)
      · have : j = i := by omega
        subst this; exact h0
    · contradiction
abbrev ruD (re : Int) (f : Q4) (l : List Q4) : D := .agg [iD re, iD f.a, iD f.b, iD f.c, iD f.d, lQ l]
abbrev chE (l : List Q4) : Int := fstE (fun i => facE (qAt l i)) l.length 0
/-- Why rules are refused. -/
def rulE (re : Int) (f : Q4) (l : List Q4) : Int := if 0 ≤ re ∧ re ≤ 100 then (if facE f = 0 then (if 4 < l.length then 8 else chE l) else facE f) else 2
theorem chkError_eq (n : Int) : m_69 [iD n] = some (iD (if 0 ≤ n ∧ n ≤ 100 then 0 else 2)) := by
  rw [m_69_eq]
  unfold chkError_M
  repeat' split
  all_goals first | rfl | (exfalso; omega)
theorem chkRules_eq (re : Int) (f : Q4) (l : List Q4) (hl : l.length ≤ 1000) : m_46 [ruD re f l] = some (iD (rulE re f l)) := by
  rw [m_46_eq]
  unfold chkRules_M rulE
  have h1 : m_73 [shNL1_0 f.a f.b f.c f.d] = _ := chkFactor_eq f.a f.b f.c f.d
  rw [chkError_eq, pullI, h1, pullI, f2, pullI]
  by_cases g : 0 ≤ re ∧ re ≤ 100
  · rw [if_pos g, gv0, if_pos g]
    by_cases g2 : facE f = 0
    · have g2' : facE ⟨f.a, f.b, f.c, f.d⟩ = 0 := g2
      rw [if_pos g2, if_neg (fun h => h g2')]
      by_cases g3 : 4 < l.length
      · rw [if_pos g3, if_pos (by omega)]
      · rw [if_neg g3, if_neg (by omega)]
        have h := fun x0 x1 x2 => scanF (n := l.length) (e := fun i => facE (qAt l i)) (S := chkRules_L7_S re f.a f.b f.c f.d l.length (cQ l) x0 x1 x2) (fun i hi => by
          rw [chkRules_L7_S_0]
          unfold chkRules_L7_S0
          rw [pullD_some (i : Int) (by rfl) (by rfl), if_pos (by omega), guardP_pos (by omega), show ((i : Int).toNat) = i from rfl, readQ hi, pullD_some ((qAt l i).a, (qAt l i).b, (qAt l i).c, (qAt l i).d) (by rfl) (by rfl)]
          dsimp only
          have h2 : m_73 [shNL1_0 (qAt l i).a (qAt l i).b (qAt l i).c (qAt l i).d] = _ := chkFactor_eq (qAt l i).a (qAt l i).b (qAt l i).c (qAt l i).d
          rw [h2, pullI, natI (by omega)]
          by_cases q : facE (qAt l i) = 0
          · rw [if_pos q, if_neg (fun h => h q)]
          · rw [if_neg q, if_pos q]) (by
          rw [chkRules_L7_S_0]
          unfold chkRules_L7_S0
          rw [pullD_some (l.length : Int) (by rfl) (by rfl), if_neg (by omega)]) l.length 0 (by omega)
        simp only [Int.natCast_zero] at h
        by_cases q : chE l = 0
        · rw [bindL_some ((h _ _ _).trans (if_pos q)), if_pos rfl, pullD_some () (by rfl) (by rfl), q]
        · rw [bindL_some ((h _ _ _).trans (if_neg q)), if_neg (by decide), if_pos rfl, pullD_some (chE l) (by rfl) (by rfl)]
    · have g2' : facE ⟨f.a, f.b, f.c, f.d⟩ ≠ 0 := g2
      rw [if_neg g2, if_pos g2']
  · rw [if_neg g, gv2, if_neg g, if_pos (by decide)]
theorem rulesErr_eq (re : Int) (f : Q4) (l : List Q4) (hl : l.length ≤ 1000) : m_53 [ruD re f l] = some (iD (rulE re f l)) := by
  rw [m_53_eq]
  unfold rulesErr_M rulE
  have h1 : m_83 [shNL1_0 f.a f.b f.c f.d] = _ := facErr_eq f.a f.b f.c f.d
  rw [within_eq, pullB, h1, pullI]
  by_cases g : 0 ≤ re ∧ re ≤ 100
  · rw [if_neg (by simp; omega), if_pos g]
    by_cases g2 : facE f = 0
    · have g2' : facE ⟨f.a, f.b, f.c, f.d⟩ = 0 := g2
      rw [if_pos g2, if_neg (fun h => h g2')]
      by_cases g3 : 4 < l.length
      · rw [if_pos g3, if_pos (by omega)]
      · rw [if_neg g3, if_neg (by omega)]
        have h := fun x0 x1 => scanF (n := l.length) (e := fun i => facE (qAt l i)) (S := rulesErr_L9_S re f.a f.b f.c f.d l.length (cQ l) x0 x1) (fun i hi => by
          rw [rulesErr_L9_S_0]
          unfold rulesErr_L9_S0
          rw [pullD_some (i : Int) (by rfl) (by rfl), if_pos (by omega), guardP_pos (by omega), show ((i : Int).toNat) = i from rfl, readQ hi, pullD_some ((qAt l i).a, (qAt l i).b, (qAt l i).c, (qAt l i).d) (by rfl) (by rfl)]
          dsimp only
          have h2 : m_83 [shNL1_0 (qAt l i).a (qAt l i).b (qAt l i).c (qAt l i).d] = _ := facErr_eq (qAt l i).a (qAt l i).b (qAt l i).c (qAt l i).d
          rw [h2, pullI, natI (by omega)]
          by_cases q : facE (qAt l i) = 0
          · rw [if_pos q, if_neg (fun h => h q)]
          · rw [if_neg q, if_pos q]) (by
          rw [rulesErr_L9_S_0]
          unfold rulesErr_L9_S0
          rw [pullD_some (l.length : Int) (by rfl) (by rfl), if_neg (by omega)]) l.length 0 (by omega)
        simp only [Int.natCast_zero] at h
        by_cases q : chE l = 0
        · rw [bindL_some ((h _ _).trans (if_pos q)), if_pos rfl, pullD_some () (by rfl) (by rfl), q]
        · rw [bindL_some ((h _ _).trans (if_neg q)), if_neg (by decide), if_pos rfl, pullD_some (chE l) (by rfl) (by rfl)]
    · have g2' : facE ⟨f.a, f.b, f.c, f.d⟩ ≠ 0 := g2
      rw [if_neg g2, if_pos g2']
  · rw [if_pos (by simp; omega), if_neg g]
theorem copyRules_eq (re : Int) (f : Q4) (l : List Q4) (hl : l.length ≤ 1000) : m_13 [ruD re f l] = some (ruD re f l) := by
  rw [m_13_eq]
  unfold copyRules_M
  rw [guardP_pos (by omega), guardP_pos (cQ_len l)]
abbrev reD (st : Int) (l : List Int) : D := .agg [iD st, lD l]
/-- Why a record is refused. -/
def recE (st : Int) (l : List Int) : Int := if 1 ≤ st ∧ st ≤ 1000000 then (if l.length < 3 then 10 else if 64 < l.length then 8 else if allIn (-4096) 4096 l = true then 0 else 2) else 2
theorem copyInts_eq (l : List Int) (hl : l.length ≤ 1000) : m_27 [lD l] = some (lD l) := by
  rw [m_27_eq]
  unfold copyInts_M
  rw [guardP_pos ⟨cells_int l, by omega, by omega, by omega⟩, guardP_pos (by simp), guardP_pos ⟨by simp, by omega⟩, Nat.zero_add]
theorem copyRecord_eq (st : Int) (l : List Int) (hl : l.length ≤ 1000) : m_14 [reD st l] = some (reD st l) := by
  rw [m_14_eq]
  unfold copyRecord_M
  rw [copyInts_eq l hl, pullD_some (l.length, l.map iD) (by rfl) (by rfl)]
theorem chkCount_eq (n : Nat) : m_75 [iD (n : Int)] = some (iD (if n < 3 then 10 else if 64 < n then 8 else 0)) := by
  rw [m_75_eq]
  unfold chkCount_M
  by_cases h1 : n < 3
  · rw [if_pos h1, if_pos (by omega)]
  rw [if_neg h1, if_neg (by omega)]
  by_cases h2 : 64 < n
  · rw [if_pos h2, if_pos (by omega)]
  · rw [if_neg h2, if_neg (by omega)]
theorem chkRecord_eq (st : Int) (l : List Int) (hl : l.length ≤ 1000) : m_47 [reD st l] = some (iD (recE st l)) := by
  rw [m_47_eq]
  unfold chkRecord_M recE
  rw [chkStep_eq, pullI, chkCount_eq, pullI, f2, pullI]
  unfold stepE
  by_cases g : 1 ≤ st ∧ st ≤ 1000000
  · rw [if_pos g, if_pos g, gv0]
    by_cases g1 : l.length < 3
    · rw [if_pos g1, if_pos g1, if_pos (by decide)]
    rw [if_neg g1, if_neg g1]
    by_cases g2 : 64 < l.length
    · rw [if_pos g2, if_pos g2, if_pos (by decide)]
    rw [if_neg g2, if_neg g2, if_neg (by decide)]
    have h := fun x0 x1 => scanIn l (-4096) 4096 (chkRecord_L101_2_S st l.length (l.map iD) x0 x1) (.out 1 [iD 2]) (fun _ _ e => by cases e) (fun i hi => by
      rw [chkRecord_L101_2_S_0]
      unfold chkRecord_L101_2_S0
      rw [pullD_some (i : Int) (by rfl) (by rfl), if_pos (by omega), guardP_pos (by omega), readA hi, pullD_some (at' l i) (by rfl) (by rfl), natI (by omega)]
      by_cases q : -4096 ≤ at' l i ∧ at' l i ≤ 4096
      · rw [if_neg (by omega), if_neg (by omega), if_pos q]
      · rw [if_neg q]
        by_cases q1 : at' l i < -4096
        · rw [if_pos q1]
        · rw [if_neg q1, if_pos (by omega)]) (by
      rw [chkRecord_L101_2_S_0]
      unfold chkRecord_L101_2_S0
      rw [pullD_some (l.length : Int) (by rfl) (by rfl), if_neg (by omega)])
    by_cases q : allIn (-4096) 4096 l = true
    · rw [if_pos q, bindL_some ((h _ _).trans (if_pos q)), if_pos rfl, pullD_some () (by rfl) (by rfl)]
    · rw [if_neg q, bindL_some ((h _ _).trans (if_neg q)), if_neg (by decide), if_pos rfl, pullD_some (2 : Int) (by rfl) (by rfl)]
  · rw [if_neg g, if_neg g, gv2, if_pos (by decide)]
theorem recErr_eq (st : Int) (l : List Int) (hl : l.length ≤ 1000) : m_41 [reD st l] = some (iD (recE st l)) := by
  rw [m_41_eq]
  unfold recErr_M recE
  rw [within_eq, pullB]
  by_cases g : 1 ≤ st ∧ st ≤ 1000000
  · rw [if_neg (by simp; omega), if_pos g]
    by_cases g1 : l.length < 3
    · rw [if_pos g1, if_pos (by omega)]
    rw [if_neg g1, if_neg (by omega)]
    by_cases g2 : 64 < l.length
    · rw [if_pos g2, if_pos (by omega)]
    rw [if_neg g2, if_neg (by omega)]
    have h := fun x0 => scanIn l (-4096) 4096 (recErr_L8_S st l.length (l.map iD) x0) (.out 1 [iD 2]) (fun _ _ e => by cases e) (fun i hi => by
      rw [recErr_L8_S_0]
      unfold recErr_L8_S0
      rw [pullD_some (i : Int) (by rfl) (by rfl), if_pos (by omega), guardP_pos (by omega), readA hi, pullD_some (at' l i) (by rfl) (by rfl), within_eq, pullB, natI (by omega)]
      by_cases q : -4096 ≤ at' l i ∧ at' l i ≤ 4096
      · rw [if_neg (by simp [q]), if_pos q]
      · rw [if_pos (by simpa using q), if_neg q]) (by
      rw [recErr_L8_S_0]
      unfold recErr_L8_S0
      rw [pullD_some (l.length : Int) (by rfl) (by rfl), if_neg (by omega)])
    by_cases q : allIn (-4096) 4096 l = true
    · rw [if_pos q, bindL_some ((h _).trans (if_pos q)), if_pos rfl, pullD_some () (by rfl) (by rfl)]
    · rw [if_neg q, bindL_some ((h _).trans (if_neg q)), if_neg (by decide), if_pos rfl, pullD_some (2 : Int) (by rfl) (by rfl)]
  · rw [if_pos (by simp; omega), if_neg g]
theorem fewF_eq (re : Int) (f : Q4) (l : List Q4) : m_11 [ruD re f l] = some (.one (.bool (decide ((l.length : Int) ≤ 6)))) := by
  rw [m_11_eq]
  rfl
end Go.Proofs.Ytmohaohdbklkeaa
