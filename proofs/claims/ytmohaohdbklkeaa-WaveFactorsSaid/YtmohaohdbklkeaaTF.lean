/- For any rules and pair of records, valid or not, the law WaveFactors of the program answers true, and its arguments read as they did. CONDITIONS: none. -/
import Derived.Test.YtmohaohdbklkeaaTE
import Derived.Test.YtmohaohdbklkeaaTA
set_option linter.unusedVariables false
set_option linter.unusedSimpArgs false
set_option linter.unusedSectionVars false
set_option linter.unnecessarySimpa false
namespace Go.Proofs.Ytmohaohdbklkeaa
open Go.Ev Go.RowKit
set_option maxRecDepth 100000
set_option maxHeartbeats 8000000
set_option linter.all false
noncomputable section
abbrev shNLC_0 (a0 : Int) (a1 : Int) (a2 : Int) (a3 : Int) : D := .agg [.one (.int .i64 a0), .one (.int .i64 a1), .one (.int .i64 a2), .one (.int .i64 a3)]
def law4_sp : List LSpec := []
def law4_M (re fa fb fc fd : Int) (k : Nat) (c : List D) (st : Int) (kb : Nat) (cb : List D) (su : Int) (ke : Nat) (ce : List D) : Option D := pullD (α := Bool) (m_9 []) (fun d => ((D.vb d))) (fun r0 => .one (.bool r0)) fun r0 => ((if r0 = false then some (.one (.bool false)) else pullD (α := Bool) (m_10 [.agg [iD st, .list kb cb]]) (fun d => ((D.vb d))) (fun r1 => .one (.bool r1)) fun r1 => ((if r1 = false then some (.one (.bool true)) else pullD (α := Bool) (m_10 [.agg [iD su, .list ke ce]]) (fun d => ((D.vb d))) (fun r2 => .one (.bool r2)) fun r2 => ((if r2 = false then some (.one (.bool true)) else pullD (α := Bool) (m_11 [.agg [iD re, iD fa, iD fb, iD fc, iD fd, .list k c]]) (fun d => ((D.vb d))) (fun r3 => .one (.bool r3)) fun r3 => ((if r3 = false then some (.one (.bool true)) else pullD (α := Int × Int × Int × Int × Int × Nat × (List D)) (m_13 [.agg [iD re, iD fa, iD fb, iD fc, iD fd, .list k c]]) (fun d => ((D.vi (D.at d 0)), (D.vi (D.at d 1)), (D.vi (D.at d 2)), (D.vi (D.at d 3)), (D.vi (D.at d 4)), (D.ln (D.at d 5)), (D.lc (D.at d 5)))) (fun (r4, r5, r6, r7, r8, k9, c10) => .agg [iD r4, iD r5, iD r6, iD r7, iD r8, .list k9 c10]) fun (r4, r5, r6, r7, r8, k9, c10) => (pullD (α := Int × Nat × (List D)) (m_14 [.agg [iD st, .list kb cb]]) (fun d => ((D.vi (D.at d 0)), (D.ln (D.at d 1)), (D.lc (D.at d 1)))) (fun (r11, k12, c13) => .agg [iD r11, .list k12 c13]) fun (r11, k12, c13) => (pullD (α := Int × Nat × (List D)) (m_14 [.agg [iD su, .list ke ce]]) (fun d => ((D.vi (D.at d 0)), (D.ln (D.at d 1)), (D.lc (D.at d 1)))) (fun (r14, k15, c16) => .agg [iD r14, .list k15 c16]) fun (r14, k15, c16) => (pullD (α := Int × Int × Int × Int × Int) (m_19 [.agg [iD r4, iD r5, iD r6, iD r7, iD r8, .list k9 c10], .agg [iD r11, .list k12 c13], .agg [iD r14, .list k15 c16]]) (fun d => ((D.vi (D.at (D.at d 0) 0)), (D.vi (D.at (D.at d 0) 1)), (D.vi (D.at (D.at d 0) 2)), (D.vi (D.at (D.at d 0) 3)), (D.vi (D.at d 1)))) (fun (r17, r18, r19, r20, r21) => .tup [(shNLC_0 r17 r18 r19 r20), iD r21]) fun (r17, r18, r19, r20, r21) => (pullD (α := Int × Int × Int × Int × Int × Nat × (List D)) (m_13 [.agg [iD re, iD fa, iD fb, iD fc, iD fd, .list k c]]) (fun d => ((D.vi (D.at d 0)), (D.vi (D.at d 1)), (D.vi (D.at d 2)), (D.vi (D.at d 3)), (D.vi (D.at d 4)), (D.ln (D.at d 5)), (D.lc (D.at d 5)))) (fun (r22, r23, r24, r25, r26, k27, c28) => .agg [iD r22, iD r23, iD r24, iD r25, iD r26, .list k27 c28]) fun (r22, r23, r24, r25, r26, k27, c28) => (pullD (α := Int × Nat × (List D)) (m_14 [.agg [iD st, .list kb cb]]) (fun d => ((D.vi (D.at d 0)), (D.ln (D.at d 1)), (D.lc (D.at d 1)))) (fun (r29, k30, c31) => .agg [iD r29, .list k30 c31]) fun (r29, k30, c31) => (pullD (α := Int × Nat × (List D)) (m_14 [.agg [iD su, .list ke ce]]) (fun d => ((D.vi (D.at d 0)), (D.ln (D.at d 1)), (D.lc (D.at d 1)))) (fun (r32, k33, c34) => .agg [iD r32, .list k33 c34]) fun (r32, k33, c34) => (pullD (α := Int × Int) (m_20 [.agg [iD r22, iD r23, iD r24, iD r25, iD r26, .list k27 c28], .agg [iD r29, .list k30 c31], .agg [iD r32, .list k33 c34]]) (fun d => ((D.vi (D.at d 0)), (D.vi (D.at d 1)))) (fun (r35, r36) => .tup [iD r35, iD r36]) fun (r35, r36) => (pullD (α := Int × Int) (m_21 [.agg [iD re, iD fa, iD fb, iD fc, iD fd, .list k c], .agg [iD st, .list kb cb], .agg [iD su, .list ke ce]]) (fun d => ((D.vi (D.at d 0)), (D.vi (D.at d 1)))) (fun (r37, r38) => .tup [iD r37, iD r38]) fun (r37, r38) => ((if r36 ≠ r38 then some (.one (.bool false)) else (if r35 ≠ r37 then some (.one (.bool false)) else pullD (α := Int) (m_22 [.agg [iD re, iD fa, iD fb, iD fc, iD fd, .list k c], .agg [iD st, .list kb cb], .agg [iD su, .list ke ce]]) (fun d => ((D.vi d))) (fun r39 => iD r39) fun r39 => ((if r39 ≠ (0 : Int) then (if r21 = r39 then some (.one (.bool (r17 == (0 : Int) && (r18 == (0 : Int) && true) && (r19 == (0 : Int) && (r20 == (0 : Int) && true) && true)))) else some (.one (.bool false))) else pullD (α := Nat × (List D)) (m_24 [.agg [iD st, .list kb cb]]) (fun d => ((D.ln d), (D.lc d))) (fun (k40, c41) => .list k40 c41) fun (k40, c41) => (pullD (α := Int × Int × Int × Int × Bool) (m_23 [.agg [iD re, iD fa, iD fb, iD fc, iD fd, .list k c], .agg [iD st, .list kb cb], .agg [iD su, .list ke ce], .list k40 c41]) (fun d => ((D.vi (D.at (D.at d 0) 0)), (D.vi (D.at (D.at d 0) 1)), (D.vi (D.at (D.at d 0) 2)), (D.vi (D.at (D.at d 0) 3)), (D.vb (D.at d 1)))) (fun (r42, r43, r44, r45, r46) => .tup [(shNLC_0 r42 r43 r44 r45), .one (.bool r46)]) fun (r42, r43, r44, r45, r46) => ((if r46 = false then (if r21 = (13 : Int) then some (.one (.bool (r17 == (0 : Int) && (r18 == (0 : Int) && true) && (r19 == (0 : Int) && (r20 == (0 : Int) && true) && true)))) else some (.one (.bool false))) else (if r21 = (0 : Int) then some (.one (.bool (r17 == r42 && (r18 == r43 && true) && (r19 == r44 && (r20 == r45 && true) && true)))) else some (.one (.bool false)))))))))))))))))))))))))))
theorem law4_M_ok (re fa fb fc fd : Int) (k : Nat) (c : List D) (st : Int) (kb : Nat) (cb : List D) (su : Int) (ke : Nat) (ce : List D) {r : D} (h : law4_M re fa fb fc fd k c st kb cb su ke ce = some r) : Con 4 [.agg [iD re, iD fa, iD fb, iD fc, iD fd, .list k c], .agg [iD st, .list kb cb, iD su, .list ke ce]] r := by
  unfold law4_M at h
  obtain ⟨r0, f1_, h2_⟩ := pullD_elim h
  replace f1_ := m_9_ok f1_
  by_cases b3_ : r0 = false
  · have h4_ := (if_pos b3_).symm.trans h2_
    obtain rfl := Option.some.inj h4_
    exact con_pc (op := true) (I := [4]) (sp := law4_sp) 3000 (bT 1 []) [.one (.bool r0)] [c_no b3_] [k_c f1_] (by kernel_rfl)
  have h4_ := (if_neg b3_).symm.trans h2_
  have b5_ : r0 = true := by first | exact b3_ | simpa using b3_
  obtain ⟨r1, f6_, h7_⟩ := pullD_elim h4_
  replace f6_ := m_10_ok f6_
  by_cases b8_ : r1 = false
  · have h9_ := (if_pos b8_).symm.trans h7_
    obtain rfl := Option.some.inj h9_
    exact con_pc (op := true) (I := [4]) (sp := law4_sp) 3000 (bF 1 (bT 10 [])) [.one (.bool r0), .one (.bool r1)] [c_nn b5_, c_no b8_, c_no b8_, c_no b8_, c_no b8_, c_no b8_, c_T, c_T, c_T, c_T, c_T] [k_c f1_, k_c f6_] (by kernel_rfl)
  have h9_ := (if_neg b8_).symm.trans h7_
  have b10_ : r1 = true := by first | exact b8_ | simpa using b8_
  obtain ⟨r2, f11_, h12_⟩ := pullD_elim h9_
  replace f11_ := m_10_ok f11_
  by_cases b13_ : r2 = false
  · have h14_ := (if_pos b13_).symm.trans h12_
    obtain rfl := Option.some.inj h14_
    exact con_pc (op := true) (I := [4]) (sp := law4_sp) 3000 (bF 6 (bT 5 [])) [.one (.bool r0), .one (.bool r1), .one (.bool r2)] [c_nn b5_, c_nn b10_, c_nn b10_, c_nn b10_, c_nn b10_, c_nn b10_, c_no b13_, c_no b13_, c_no b13_, c_no b13_, c_T] [k_c f1_, k_c f6_, k_c f11_] (by kernel_rfl)
  have h14_ := (if_neg b13_).symm.trans h12_
  have b15_ : r2 = true := by first | exact b13_ | simpa using b13_
  obtain ⟨r3, f16_, h17_⟩ := pullD_elim h14_
  replace f16_ := m_11_ok f16_
  by_cases b18_ : r3 = false
  · have h19_ := (if_pos b18_).symm.trans h17_
    obtain rfl := Option.some.inj h19_
    exact con_pc (op := true) (I := [4]) (sp := law4_sp) 3000 (bF 10 (bT 1 [])) [.one (.bool r0), .one (.bool r1), .one (.bool r2), .one (.bool r3)] [c_nn b5_, c_nn b10_, c_nn b10_, c_nn b10_, c_nn b10_, c_nn b10_, c_nn b15_, c_nn b15_, c_nn b15_, c_nn b15_, c_no b18_] [k_c f1_, k_c f6_, k_c f11_, k_c f16_] (by kernel_rfl)
  have h19_ := (if_neg b18_).symm.trans h17_
  have b20_ : r3 = true := by first | exact b18_ | simpa using b18_
  obtain ⟨⟨r4, r5, r6, r7, r8, k9, c10⟩, f21_, h22_⟩ := pullD_elim h19_
  replace f21_ := m_13_ok f21_
  obtain ⟨⟨r11, k12, c13⟩, f23_, h24_⟩ := pullD_elim h22_
  replace f23_ := m_14_ok f23_
  obtain ⟨⟨r14, k15, c16⟩, f25_, h26_⟩ := pullD_elim h24_
  replace f25_ := m_14_ok f25_
  obtain ⟨⟨r17, r18, r19, r20, r21⟩, f27_, h28_⟩ := pullD_elim h26_
  replace f27_ := m_19_ok f27_
  obtain ⟨⟨r22, r23, r24, r25, r26, k27, c28⟩, f29_, h30_⟩ := pullD_elim h28_
  replace f29_ := m_13_ok f29_
  obtain ⟨⟨r29, k30, c31⟩, f31_, h32_⟩ := pullD_elim h30_
  replace f31_ := m_14_ok f31_
  obtain ⟨⟨r32, k33, c34⟩, f33_, h34_⟩ := pullD_elim h32_
  replace f33_ := m_14_ok f33_
  obtain ⟨⟨r35, r36⟩, f35_, h36_⟩ := pullD_elim h34_
  replace f35_ := m_20_ok f35_
  obtain ⟨⟨r37, r38⟩, f37_, h38_⟩ := pullD_elim h36_
  replace f37_ := m_21_ok f37_
  by_cases b39_ : r36 ≠ r38
  · have h40_ := (if_pos b39_).symm.trans h38_
    obtain rfl := Option.some.inj h40_
    exact con_pc (op := true) (I := [4]) (sp := law4_sp) 3000 (bF 11 (bT 5 [])) [.one (.bool r0), .one (.bool r1), .one (.bool r2), .one (.bool r3), .agg [iD r4, iD r5, iD r6, iD r7, iD r8, .list k9 c10], .agg [iD r11, .list k12 c13], .agg [iD r14, .list k15 c16], .tup [(shNLC_0 r17 r18 r19 r20), iD r21], .agg [iD r22, iD r23, iD r24, iD r25, iD r26, .list k27 c28], .agg [iD r29, .list k30 c31], .agg [iD r32, .list k33 c34], .tup [iD r35, iD r36], .tup [iD r37, iD r38]] [c_nn b5_, c_nn b10_, c_nn b10_, c_nn b10_, c_nn b10_, c_nn b10_, c_nn b15_, c_nn b15_, c_nn b15_, c_nn b15_, c_nn b20_, c_b b39_, c_b b39_, c_b b39_, c_b b39_, c_T] [k_c f1_, k_c f6_, k_c f11_, k_c f16_, k_c f21_, k_c f23_, k_c f25_, k_c f27_, k_c f29_, k_c f31_, k_c f33_, k_c f35_, k_c f37_] (by kernel_rfl)
  have h40_ := (if_neg b39_).symm.trans h38_
  have b41_ : r36 = r38 := by first | exact b39_ | simpa using b39_
  by_cases b42_ : r35 ≠ r37
  · have h43_ := (if_pos b42_).symm.trans h40_
    obtain rfl := Option.some.inj h43_
    exact con_pc (op := true) (I := [4]) (sp := law4_sp) 3000 (bF 15 (bT 1 [])) [.one (.bool r0), .one (.bool r1), .one (.bool r2), .one (.bool r3), .agg [iD r4, iD r5, iD r6, iD r7, iD r8, .list k9 c10], .agg [iD r11, .list k12 c13], .agg [iD r14, .list k15 c16], .tup [(shNLC_0 r17 r18 r19 r20), iD r21], .agg [iD r22, iD r23, iD r24, iD r25, iD r26, .list k27 c28], .agg [iD r29, .list k30 c31], .agg [iD r32, .list k33 c34], .tup [iD r35, iD r36], .tup [iD r37, iD r38]] [c_nn b5_, c_nn b10_, c_nn b10_, c_nn b10_, c_nn b10_, c_nn b10_, c_nn b15_, c_nn b15_, c_nn b15_, c_nn b15_, c_nn b20_, c_bn b41_, c_bn b41_, c_bn b41_, c_bn b41_, c_b b42_] [k_c f1_, k_c f6_, k_c f11_, k_c f16_, k_c f21_, k_c f23_, k_c f25_, k_c f27_, k_c f29_, k_c f31_, k_c f33_, k_c f35_, k_c f37_] (by kernel_rfl)
  have h43_ := (if_neg b42_).symm.trans h40_
  have b44_ : r35 = r37 := by first | exact b42_ | simpa using b42_
  obtain ⟨r39, f45_, h46_⟩ := pullD_elim h43_
  replace f45_ := m_22_ok f45_
  by_cases b47_ : r39 ≠ (0 : Int)
  · have h48_ := (if_pos b47_).symm.trans h46_
    by_cases b49_ : r21 = r39
    · have h50_ := (if_pos b49_).symm.trans h48_
      obtain rfl := Option.some.inj h50_
      exact con_pc (op := true) (I := [4]) (sp := law4_sp) 3000 (bF 16 (bT 5 [])) [.one (.bool r0), .one (.bool r1), .one (.bool r2), .one (.bool r3), .agg [iD r4, iD r5, iD r6, iD r7, iD r8, .list k9 c10], .agg [iD r11, .list k12 c13], .agg [iD r14, .list k15 c16], .tup [(shNLC_0 r17 r18 r19 r20), iD r21], .agg [iD r22, iD r23, iD r24, iD r25, iD r26, .list k27 c28], .agg [iD r29, .list k30 c31], .agg [iD r32, .list k33 c34], .tup [iD r35, iD r36], .tup [iD r37, iD r38], iD r39] [c_nn b5_, c_nn b10_, c_nn b10_, c_nn b10_, c_nn b10_, c_nn b10_, c_nn b15_, c_nn b15_, c_nn b15_, c_nn b15_, c_nn b20_, c_bn b41_, c_bn b41_, c_bn b41_, c_bn b41_, c_bn b44_, c_b b47_, c_e b49_, c_e b49_, c_e b49_, c_e b49_] [k_c f1_, k_c f6_, k_c f11_, k_c f16_, k_c f21_, k_c f23_, k_c f25_, k_c f27_, k_c f29_, k_c f31_, k_c f33_, k_c f35_, k_c f37_, k_c f45_] (by kernel_rfl)
    have h50_ := (if_neg b49_).symm.trans h48_
    have b51_ : r21 ≠ r39 := by first | exact b49_ | simpa using b49_
    obtain rfl := Option.some.inj h50_
    exact con_pc (op := true) (I := [4]) (sp := law4_sp) 3000 (bF 16 (bT 1 (bF 4 []))) [.one (.bool r0), .one (.bool r1), .one (.bool r2), .one (.bool r3), .agg [iD r4, iD r5, iD r6, iD r7, iD r8, .list k9 c10], .agg [iD r11, .list k12 c13], .agg [iD r14, .list k15 c16], .tup [(shNLC_0 r17 r18 r19 r20), iD r21], .agg [iD r22, iD r23, iD r24, iD r25, iD r26, .list k27 c28], .agg [iD r29, .list k30 c31], .agg [iD r32, .list k33 c34], .tup [iD r35, iD r36], .tup [iD r37, iD r38], iD r39] [c_nn b5_, c_nn b10_, c_nn b10_, c_nn b10_, c_nn b10_, c_nn b10_, c_nn b15_, c_nn b15_, c_nn b15_, c_nn b15_, c_nn b20_, c_bn b41_, c_bn b41_, c_bn b41_, c_bn b41_, c_bn b44_, c_b b47_, c_en b51_, c_en b51_, c_en b51_, c_en b51_] [k_c f1_, k_c f6_, k_c f11_, k_c f16_, k_c f21_, k_c f23_, k_c f25_, k_c f27_, k_c f29_, k_c f31_, k_c f33_, k_c f35_, k_c f37_, k_c f45_] (by kernel_rfl)
  have h48_ := (if_neg b47_).symm.trans h46_
  have b52_ : r39 = (0 : Int) := by first | exact b47_ | simpa using b47_
  obtain ⟨⟨k40, c41⟩, f53_, h54_⟩ := pullD_elim h48_
  replace f53_ := m_24_ok f53_
  obtain ⟨⟨r42, r43, r44, r45, r46⟩, f55_, h56_⟩ := pullD_elim h54_
  replace f55_ := m_23_ok f55_
  by_cases b57_ : r46 = false
  · have h58_ := (if_pos b57_).symm.trans h56_
    by_cases b59_ : r21 = (13 : Int)
    · have h60_ := (if_pos b59_).symm.trans h58_
      obtain rfl := Option.some.inj h60_
      exact con_pc (op := true) (I := [4]) (sp := law4_sp) 3000 (bF 17 (bT 5 [])) [.one (.bool r0), .one (.bool r1), .one (.bool r2), .one (.bool r3), .agg [iD r4, iD r5, iD r6, iD r7, iD r8, .list k9 c10], .agg [iD r11, .list k12 c13], .agg [iD r14, .list k15 c16], .tup [(shNLC_0 r17 r18 r19 r20), iD r21], .agg [iD r22, iD r23, iD r24, iD r25, iD r26, .list k27 c28], .agg [iD r29, .list k30 c31], .agg [iD r32, .list k33 c34], .tup [iD r35, iD r36], .tup [iD r37, iD r38], iD r39, .list k40 c41, .tup [(shNLC_0 r42 r43 r44 r45), .one (.bool r46)]] [c_nn b5_, c_nn b10_, c_nn b10_, c_nn b10_, c_nn b10_, c_nn b10_, c_nn b15_, c_nn b15_, c_nn b15_, c_nn b15_, c_nn b20_, c_bn b41_, c_bn b41_, c_bn b41_, c_bn b41_, c_bn b44_, c_bn b52_, c_no b57_, c_e b59_, c_e b59_, c_e b59_, c_e b59_] [k_c f1_, k_c f6_, k_c f11_, k_c f16_, k_c f21_, k_c f23_, k_c f25_, k_c f27_, k_c f29_, k_c f31_, k_c f33_, k_c f35_, k_c f37_, k_c f45_, k_c f53_, k_c f55_] (by kernel_rfl)
    have h60_ := (if_neg b59_).symm.trans h58_
    have b61_ : r21 ≠ (13 : Int) := by first | exact b59_ | simpa using b59_
    obtain rfl := Option.some.inj h60_
    exact con_pc (op := true) (I := [4]) (sp := law4_sp) 3000 (bF 17 (bT 1 (bF 4 []))) [.one (.bool r0), .one (.bool r1), .one (.bool r2), .one (.bool r3), .agg [iD r4, iD r5, iD r6, iD r7, iD r8, .list k9 c10], .agg [iD r11, .list k12 c13], .agg [iD r14, .list k15 c16], .tup [(shNLC_0 r17 r18 r19 r20), iD r21], .agg [iD r22, iD r23, iD r24, iD r25, iD r26, .list k27 c28], .agg [iD r29, .list k30 c31], .agg [iD r32, .list k33 c34], .tup [iD r35, iD r36], .tup [iD r37, iD r38], iD r39, .list k40 c41, .tup [(shNLC_0 r42 r43 r44 r45), .one (.bool r46)]] [c_nn b5_, c_nn b10_, c_nn b10_, c_nn b10_, c_nn b10_, c_nn b10_, c_nn b15_, c_nn b15_, c_nn b15_, c_nn b15_, c_nn b20_, c_bn b41_, c_bn b41_, c_bn b41_, c_bn b41_, c_bn b44_, c_bn b52_, c_no b57_, c_en b61_, c_en b61_, c_en b61_, c_en b61_] [k_c f1_, k_c f6_, k_c f11_, k_c f16_, k_c f21_, k_c f23_, k_c f25_, k_c f27_, k_c f29_, k_c f31_, k_c f33_, k_c f35_, k_c f37_, k_c f45_, k_c f53_, k_c f55_] (by kernel_rfl)
  have h58_ := (if_neg b57_).symm.trans h56_
  have b62_ : r46 = true := by first | exact b57_ | simpa using b57_
  by_cases b63_ : r21 = (0 : Int)
  · have h64_ := (if_pos b63_).symm.trans h58_
    obtain rfl := Option.some.inj h64_
    exact con_pc (op := true) (I := [4]) (sp := law4_sp) 3000 (bF 18 (bT 4 [])) [.one (.bool r0), .one (.bool r1), .one (.bool r2), .one (.bool r3), .agg [iD r4, iD r5, iD r6, iD r7, iD r8, .list k9 c10], .agg [iD r11, .list k12 c13], .agg [iD r14, .list k15 c16], .tup [(shNLC_0 r17 r18 r19 r20), iD r21], .agg [iD r22, iD r23, iD r24, iD r25, iD r26, .list k27 c28], .agg [iD r29, .list k30 c31], .agg [iD r32, .list k33 c34], .tup [iD r35, iD r36], .tup [iD r37, iD r38], iD r39, .list k40 c41, .tup [(shNLC_0 r42 r43 r44 r45), .one (.bool r46)]] [c_nn b5_, c_nn b10_, c_nn b10_, c_nn b10_, c_nn b10_, c_nn b10_, c_nn b15_, c_nn b15_, c_nn b15_, c_nn b15_, c_nn b20_, c_bn b41_, c_bn b41_, c_bn b41_, c_bn b41_, c_bn b44_, c_bn b52_, c_nn b62_, c_e b63_, c_e b63_, c_e b63_, c_e b63_] [k_c f1_, k_c f6_, k_c f11_, k_c f16_, k_c f21_, k_c f23_, k_c f25_, k_c f27_, k_c f29_, k_c f31_, k_c f33_, k_c f35_, k_c f37_, k_c f45_, k_c f53_, k_c f55_] (by kernel_rfl)
  have h64_ := (if_neg b63_).symm.trans h58_
  have b65_ : r21 ≠ (0 : Int) := by first | exact b63_ | simpa using b63_
  obtain rfl := Option.some.inj h64_
  exact con_pc (op := true) (I := [4]) (sp := law4_sp) 3000 (bF 22 []) [.one (.bool r0), .one (.bool r1), .one (.bool r2), .one (.bool r3), .agg [iD r4, iD r5, iD r6, iD r7, iD r8, .list k9 c10], .agg [iD r11, .list k12 c13], .agg [iD r14, .list k15 c16], .tup [(shNLC_0 r17 r18 r19 r20), iD r21], .agg [iD r22, iD r23, iD r24, iD r25, iD r26, .list k27 c28], .agg [iD r29, .list k30 c31], .agg [iD r32, .list k33 c34], .tup [iD r35, iD r36], .tup [iD r37, iD r38], iD r39, .list k40 c41, .tup [(shNLC_0 r42 r43 r44 r45), .one (.bool r46)]] [c_nn b5_, c_nn b10_, c_nn b10_, c_nn b10_, c_nn b10_, c_nn b10_, c_nn b15_, c_nn b15_, c_nn b15_, c_nn b15_, c_nn b20_, c_bn b41_, c_bn b41_, c_bn b41_, c_bn b41_, c_bn b44_, c_bn b52_, c_nn b62_, c_en b65_, c_en b65_, c_en b65_, c_en b65_] [k_c f1_, k_c f6_, k_c f11_, k_c f16_, k_c f21_, k_c f23_, k_c f25_, k_c f27_, k_c f29_, k_c f31_, k_c f33_, k_c f35_, k_c f37_, k_c f45_, k_c f53_, k_c f55_] (by kernel_rfl)
def m_4 (ds : List D) : Option D := pullD (α := Int × Int × Int × Int × Int × Nat × (List D) × Int × Nat × (List D) × Int × Nat × (List D)) (some (.tup ds)) (fun d => ((D.vi (D.at (D.at d 0) 0)), (D.vi (D.at (D.at d 0) 1)), (D.vi (D.at (D.at d 0) 2)), (D.vi (D.at (D.at d 0) 3)), (D.vi (D.at (D.at d 0) 4)), (D.ln (D.at (D.at d 0) 5)), (D.lc (D.at (D.at d 0) 5)), (D.vi (D.at (D.at d 1) 0)), (D.ln (D.at (D.at d 1) 1)), (D.lc (D.at (D.at d 1) 1)), (D.vi (D.at (D.at d 1) 2)), (D.ln (D.at (D.at d 1) 3)), (D.lc (D.at (D.at d 1) 3)))) (fun (re, fa, fb, fc, fd, k, c, st, kb, cb, su, ke, ce) => .tup [.agg [iD re, iD fa, iD fb, iD fc, iD fd, .list k c], .agg [iD st, .list kb cb, iD su, .list ke ce]]) fun (re, fa, fb, fc, fd, k, c, st, kb, cb, su, ke, ce) => law4_M re fa fb fc fd k c st kb cb su ke ce
theorem m_4_ok {ds : List D} {r : D} (h : m_4 ds = some r) : Con 4 ds r := by
  unfold m_4 at h
  obtain ⟨⟨re, fa, fb, fc, fd, k, c, st, kb, cb, su, ke, ce⟩, e0, h0⟩ := pullD_elim h
  obtain rfl := tup_inj e0
  exact law4_M_ok re fa fb fc fd k c st kb cb su ke ce h0
theorem m_4_eq (re fa fb fc fd : Int) (k : Nat) (c : List D) (st : Int) (kb : Nat) (cb : List D) (su : Int) (ke : Nat) (ce : List D) : m_4 [.agg [iD re, iD fa, iD fb, iD fc, iD fd, .list k c], .agg [iD st, .list kb cb, iD su, .list ke ce]] = law4_M re fa fb fc fd k c st kb cb su ke ce := pullD_some (re, fa, fb, fc, fd, k, c, st, kb, cb, su, ke, ce) rfl rfl
end
end Go.Proofs.Ytmohaohdbklkeaa
/- Rules, records: what is checked. -/
namespace Go.Proofs.Ytmohaohdbklkeaa
open Go.Ev Go.RowKit
set_option maxRecDepth 100000
def firstV : List Int → Int
  | [] => 0
  | x :: l => if x = 0 then firstV l else x
theorem first_go (k : Nat) : ∀ (pre l : List Int), k = (pre ++ l).length → k ≤ 1000000 → (∀ x ∈ pre, x = 0) →
    runR (firstOf_L2_S k ((pre ++ l).map iD)) (.next 0 [iD (pre.length : Int)]) = some (if firstV l = 0 then .out 0 [] else .out 1 [iD (firstV l)]) := by
  intro pre l
  induction l generalizing pre with
  | nil =>
    intro hk _ _
    rw [List.append_nil] at hk ⊢
    refine runR_exit ?_
    show firstOf_L2_S0 _ _ _ = _
    unfold firstOf_L2_S0
    rw [pullD_some (pre.length : Int) (by rfl) (by rfl), if_neg (by omega)]
  | cons x l ih =>
    intro hk hs hp
    have hg : (pre ++ x :: l)[pre.length]? = some x := by simp
    have hlt : pre.length < k := by rw [hk, List.length_append, List.length_cons]; omega
    by_cases hx : x = 0
    · have st : firstOf_L2_S k ((pre ++ x :: l).map iD) (.next 0 [iD (pre.length : Int)]) = some (.next 0 [iD (((pre ++ [x]).length : Nat) : Int)]) := by
        show firstOf_L2_S0 _ _ _ = _
        unfold firstOf_L2_S0
        rw [pullD_some (pre.length : Int) (by rfl) (by rfl), if_pos (by omega), guardP_pos (by omega), readW hg, pullI, if_neg (by simp [hx]), wrapJ _ (by omega) (by omega), List.length_append, List.length_singleton]
        rfl
      have h2 := ih (pre ++ [x]) (by rw [hk]; simp) hs (fun y hy => by
        rcases List.mem_append.1 hy with h | h
        · exact hp y h
        · simp at h; rw [h]; exact hx)
      rw [List.append_assoc, List.singleton_append] at h2
      rw [runR_next st, h2]
      simp [firstV, hx]
    · refine (runR_exit (j := 1) (es := [iD x]) ?_).trans ?_
      · show firstOf_L2_S0 _ _ _ = _
        unfold firstOf_L2_S0
        rw [pullD_some (pre.length : Int) (by rfl) (by rfl), if_pos (by omega), guardP_pos (by omega), readW hg, pullI, if_pos hx]
      · simp [firstV, hx]
theorem firstOf_eq (l : List Int) (hl : l.length ≤ 1000000) : m_45 [lD l] = some (iD (firstV l)) := by
  have h := first_go l.length [] l rfl hl (fun _ h => by cases h)
  simp only [List.nil_append, List.length_nil] at h
  have h : runR (firstOf_L2_S l.length (l.map iD)) (.next 0 [.one (.int .i64 0)]) = some (if firstV l = 0 then .out 0 [] else .out 1 [iD (firstV l)]) := h
  rw [m_45_eq]
  unfold firstOf_M
  by_cases h0 : firstV l = 0
  · rw [if_pos h0] at h
    rw [bindL_some h, if_pos rfl, pullD_some () (by rfl) (by rfl), h0]
  · rw [if_neg h0] at h
    rw [bindL_some h, if_neg (by decide), if_pos rfl, pullD_some (firstV l) (by rfl) (by rfl)]
theorem f2 (x y : Int) : m_45 [.list 2 [iD x, iD y]] = some (iD (firstV [x, y])) := firstOf_eq [x, y] (by simp)
theorem f3 (x y z : Int) : m_45 [.list 3 [iD x, iD y, iD z]] = some (iD (firstV [x, y, z])) := firstOf_eq [x, y, z] (by simp)
theorem within_eq (n lo hi : Int) : m_33 [iD n, iD lo, iD hi] = some (.one (.bool (decide (lo ≤ n ∧ n ≤ hi)))) := by
  rw [m_33_eq]
  unfold within_M
  by_cases h : lo ≤ n
  · rw [if_pos h]; simp [h]
  · rw [if_neg h]; simp [h]
def stepE (n : Int) : Int := if 1 ≤ n ∧ n ≤ 1000000 then 0 else 2
theorem chkStep_eq (n : Int) : m_74 [iD n] = some (iD (stepE n)) := by
  rw [m_74_eq]
  unfold chkStep_M stepE
  repeat' split
  all_goals first | rfl | (exfalso; omega)
/-- Where the division with a remainder ends. -/
def eu (a b : Int) : Int := if h : b = 0 then a else eu b (a.tmod b)
termination_by b.natAbs
decreasing_by
  rw [Int.natAbs_tmod]
  exact Nat.mod_lt _ (by omega)
theorem eu_zero (a : Int) : eu a 0 = a := by unfold eu; simp
theorem eu_step {a b : Int} (h : b ≠ 0) : eu a b = eu b (a.tmod b) := by
  conv => lhs; unfold eu
  rw [dif_neg h]
theorem eu_gcd (a b : Int) : (eu a b).natAbs = Int.gcd a b := by
  generalize hk : b.natAbs = k
  induction k using Nat.strongRecOn generalizing a b with
  | ind k ih =>
    by_cases h : b = 0
    · subst h; rw [eu_zero]; simp
    · have hlt : (a.tmod b).natAbs < b.natAbs := by rw [Int.natAbs_tmod]; exact Nat.mod_lt _ (by omega)
      rw [eu_step h, ih _ (by omega) b (a.tmod b) rfl]
      show Nat.gcd b.natAbs (a.tmod b).natAbs = Nat.gcd a.natAbs b.natAbs
      rw [Int.natAbs_tmod, Nat.gcd_comm a.natAbs, Nat.gcd_rec b.natAbs a.natAbs, Nat.gcd_comm]
def absW (r : Int) : Int := if IntKind.i64.wrap (0 - r) > r then IntKind.i64.wrap (0 - r) else r
theorem absW_eq {r : Int} (h : r.natAbs < 9223372036854775808) : absW r = (r.natAbs : Int) := by
  unfold absW
  rw [wrapJ _ (by omega) (by omega)]
  split <;> omega
theorem div_go (x y : Int) : ∀ (k : Nat) (a b : Int), b.natAbs ≤ k → runR (divisor_L1_S x y) (.next 0 [iD a, iD b]) = some (.out 0 [iD (eu a b)]) := by
  intro k
  induction k with
  | zero =>
    intro a b h
    have hb : b = 0 := by omega
    subst hb
    refine runR_exit ?_
    show divisor_L1_S0 x y _ = _
    unfold divisor_L1_S0
    rw [pullD_some (a, (0 : Int)) (by rfl) (by rfl)]
    dsimp only
    rw [if_neg (by simp), eu_zero]
  | succ k ih =>
    intro a b h
    by_cases hb : b = 0
    · exact ih a b (by omega)
    · have st : divisor_L1_S x y (.next 0 [iD a, iD b]) = some (.next 0 [iD b, iD (a.tmod b)]) := by
        show divisor_L1_S0 x y _ = _
        unfold divisor_L1_S0
        rw [pullD_some (a, b) (by rfl) (by rfl)]
        dsimp only
        rw [if_pos hb]
      have hlt : (a.tmod b).natAbs < b.natAbs := by rw [Int.natAbs_tmod]; exact Nat.mod_lt _ (by omega)
      rw [runR_next st, ih b (a.tmod b) (by omega), ← eu_step hb]
theorem divisor_eq (a b : Int) : m_102 [iD a, iD b] = some (iD (absW (eu a b))) := by
  rw [m_102_eq]
  unfold divisor_M
  rw [div_go a b b.natAbs a b (Nat.le_refl _), bindL_some rfl, if_pos rfl, pullD_some (eu a b) (by rfl) (by rfl)]
  rfl
theorem gcd_loop (x y : Int) : ∀ (k : Nat) (a b : Int), b.natAbs ≤ k → runR (gcd_L1_S x y) (.next 0 [iD a, iD b]) = some (.out 0 [iD (eu a b)]) := by
  intro k
  induction k with
  | zero =>
    intro a b h
    have hb : b = 0 := by omega
    subst hb
    refine runR_exit ?_
    show gcd_L1_S0 x y _ = _
    unfold gcd_L1_S0
    rw [pullD_some (a, (0 : Int)) (by rfl) (by rfl)]
    dsimp only
    rw [if_neg (by simp), eu_zero]
  | succ k ih =>
    intro a b h
    by_cases hb : b = 0
    · exact ih a b (by omega)
    · have st : gcd_L1_S x y (.next 0 [iD a, iD b]) = some (.next 0 [iD b, iD (a.tmod b)]) := by
        show gcd_L1_S0 x y _ = _
        unfold gcd_L1_S0
        rw [pullD_some (a, b) (by rfl) (by rfl)]
        dsimp only
        rw [if_pos hb]
      have hlt : (a.tmod b).natAbs < b.natAbs := by rw [Int.natAbs_tmod]; exact Nat.mod_lt _ (by omega)
      rw [runR_next st, ih b (a.tmod b) (by omega), ← eu_step hb]
theorem gcdI_eq (a b : Int) : m_100 [iD a, iD b] = some (iD (absW (eu a b))) := by
  rw [m_100_eq]
  unfold gcd_M
  rw [gcd_loop a b b.natAbs a b (Nat.le_refl _), bindL_some rfl, if_pos rfl, pullD_some (eu a b) (by rfl) (by rfl), m_103_eq]
  unfold size_M
  rw [pullI]
  rfl
theorem absW_gcd {a b : Int} (h : 0 < b) (h2 : b < 9223372036854775808) : absW (eu a b) = ((Int.gcd a b : Nat) : Int) := by
  have h1 : Int.gcd a b ≤ b.natAbs := Nat.le_of_dvd (by omega) (Int.gcd_dvd_natAbs_right a b)
  rw [absW_eq (by rw [eu_gcd]; omega), eu_gcd]
theorem gv2 (x : Int) : firstV [2, x] = 2 := rfl
theorem gv0 (x : Int) : firstV [0, x] = x := by
  unfold firstV firstV
  simp only [if_true]
  split
  · rename_i h; rw [h]; rfl
  · rfl
theorem n2 : ((2 : Int) ≠ 0) = True := by decide
theorem n0 : ((0 : Int) ≠ 0) = False := by decide
def lowB (n d : Int) : Bool := decide (0 < d ∧ absW (eu n d) = 1)
theorem isLowest_eq (n d : Int) : m_97 [.agg [iD n, iD d]] = some (.one (.bool (lowB n d))) := by
  rw [m_97_eq]
  unfold isLowest_M lowB
  by_cases h : d > 0
  · rw [if_pos h, gcdI_eq, pullI]
    congr 3
    rw [Bool.eq_iff_iff]; simp [show 0 < d from h]
  · rw [if_neg h]
    congr 3
    rw [Bool.eq_iff_iff]; simp [show ¬ 0 < d from h]
theorem isReduced_eq (n d : Int) : m_94 [.agg [iD n, iD d]] = some (.one (.bool (lowB n d))) := by
  rw [m_94_eq]
  unfold isReduced_M lowB
  by_cases h : d > 0
  · rw [if_pos h, divisor_eq, pullI]
    congr 3
    rw [Bool.eq_iff_iff]; simp [show 0 < d from h]
  · rw [if_neg h]
    congr 3
    rw [Bool.eq_iff_iff]; simp [show ¬ 0 < d from h]
theorem lowB_pos {n d : Int} (h : lowB n d = true) : 0 < d := by
  unfold lowB at h
  simp only [decide_eq_true_eq] at h
  exact h.1
def facR (x : Q4) : Prop := 1 ≤ x.a ∧ x.a ≤ 1000 ∧ 1 ≤ x.b ∧ x.b ≤ 1000 ∧ 1 ≤ x.c ∧ x.c ≤ 1000 ∧ 1 ≤ x.d ∧ x.d ≤ 1000
instance (x : Q4) : Decidable (facR x) := by unfold facR; infer_instance
/-- Why a factor is refused. -/
def facE (x : Q4) : Int := if lowB x.a x.b = true ∧ lowB x.c x.d = true then (if facR x then (if x.a * x.d ≤ x.c * x.b then 0 else 9) else 2) else 3
theorem mulK {x y : Int} (h1 : 1 ≤ x) (h2 : x ≤ 1000) (h3 : 1 ≤ y) (h4 : y ≤ 1000) : 0 ≤ x * y ∧ x * y ≤ 1000000 := ⟨Int.mul_nonneg (by omega) (by omega), by
  have := Int.mul_le_mul h2 h4 (by omega) (by omega : (0 : Int) ≤ 1000)
  omega⟩
theorem isLess_eq {n d m e : Int} (h1 : 0 ≤ n * e) (h2 : n * e ≤ 1000000) (h3 : 0 ≤ m * d) (h4 : m * d ≤ 1000000) : m_95 [.agg [iD n, iD d], .agg [iD m, iD e]] = some (.one (.bool (decide (n * e < m * d)))) := by
  rw [m_95_eq]
  unfold isLess_M
  rw [wrapJ (n * e) (by omega) (by omega), wrapJ (m * d) (by omega) (by omega)]
theorem cmpI_eq {n d m e : Int} (h1 : 0 ≤ n * e) (h2 : n * e ≤ 1000000) (h3 : 0 ≤ m * d) (h4 : m * d ≤ 1000000) : m_39 [.agg [iD n, iD d], .agg [iD m, iD e]] = some (iD (if n * e < m * d then -1 else if n * e > m * d then 1 else 0)) := by
  rw [m_39_eq]
  unfold cmpI_M
  rw [wrapJ (n * e) (by omega) (by omega), wrapJ (m * d) (by omega) (by omega)]
  repeat' split
  all_goals rfl
theorem facE3 {x : Q4} (h : lowB x.a x.b = false ∨ lowB x.c x.d = false) : facE x = 3 := by
  unfold facE
  rw [if_neg]
  rcases h with h | h <;> simp [h]
theorem facE2 {x : Q4} (h1 : lowB x.a x.b = true) (h2 : lowB x.c x.d = true) (h : ¬ facR x) : facE x = 2 := by
  unfold facE
  rw [if_pos ⟨h1, h2⟩, if_neg h]
theorem chkFactor_eq (p q u v : Int) : m_73 [.agg [iD p, iD q, iD u, iD v]] = some (iD (facE ⟨p, q, u, v⟩)) := by
  rw [m_73_eq]
  unfold chkFactor_M
  rw [isReduced_eq, pullB, isReduced_eq, pullB]
  cases b1 : lowB p q with
  | false => rw [if_pos rfl, facE3 (.inl b1)]
  | true =>
    rw [if_neg (by decide)]
    cases b2 : lowB u v with
    | false => rw [if_pos rfl, facE3 (.inr b2)]
    | true =>
      rw [if_neg (by decide)]
      by_cases g : facR ⟨p, q, u, v⟩
      · have g' := g
        unfold facR at g'
        simp only at g'
        obtain ⟨k1, k2⟩ := mulK (x := p) (y := v) (by omega) (by omega) (by omega) (by omega)
        obtain ⟨k3, k4⟩ := mulK (x := u) (y := q) (by omega) (by omega) (by omega) (by omega)
        rw [if_neg (by omega), if_neg (by omega), if_neg (by omega), if_neg (by omega), if_neg (by omega), if_neg (by omega), if_neg (by omega), if_neg (by omega), isLess_eq k3 k4 k1 k2, pullB]
        have hE : facE ⟨p, q, u, v⟩ = if p * v ≤ u * q then 0 else 9 := by
          unfold facE
          rw [if_pos ⟨b1, b2⟩, if_pos g]
        rw [hE]
        by_cases o : p * v ≤ u * q
        · rw [if_pos o, if_neg (by simp; omega)]
        · rw [if_neg o, if_pos (by simp; omega)]
      · rw [facE2 b1 b2 g]
        unfold facR at g
        simp only at g
        by_cases q0 : p < 1
        · rw [if_pos q0]
        rw [if_neg q0]
        by_cases q1 : p > 1000
        · rw [if_pos q1]
        rw [if_neg q1]
        by_cases q2 : q < 1
        · rw [if_pos q2]
        rw [if_neg q2]
        by_cases q3 : q > 1000
        · rw [if_pos q3]
        rw [if_neg q3]
        by_cases q4 : u < 1
        · rw [if_pos q4]
        rw [if_neg q4]
        by_cases q5 : u > 1000
        · rw [if_pos q5]
        rw [if_neg q5]
        by_cases q6 : v < 1
        · rw [if_pos q6]
        rw [if_neg q6, if_pos (by omega)]
theorem facErr_eq (p q u v : Int) : m_83 [.agg [iD p, iD q, iD u, iD v]] = some (iD (facE ⟨p, q, u, v⟩)) := by
  rw [m_83_eq]
  unfold facErr_M
  rw [isLowest_eq, pullB, isLowest_eq, pullB, within_eq, pullB, within_eq, pullB]
  cases b1 : lowB p q with
  | false => rw [if_pos rfl, facE3 (.inl b1)]
  | true =>
    rw [if_neg (by decide)]
    cases b2 : lowB u v with
    | false => rw [if_pos rfl, facE3 (.inr b2)]
    | true =>
      have hq := lowB_pos b1
      have hv := lowB_pos b2
      rw [if_neg (by decide)]
      by_cases g : facR ⟨p, q, u, v⟩
      · have g' := g
        unfold facR at g'
        simp only at g'
        obtain ⟨k1, k2⟩ := mulK (x := p) (y := v) (by omega) (by omega) (by omega) (by omega)
        obtain ⟨k3, k4⟩ := mulK (x := u) (y := q) (by omega) (by omega) (by omega) (by omega)
        rw [if_neg (by simp; omega), if_neg (by simp; omega), if_neg (by omega), if_neg (by omega), cmpI_eq k1 k2 k3 k4, pullI]
        have hE : facE ⟨p, q, u, v⟩ = if p * v ≤ u * q then 0 else 9 := by
          unfold facE
          rw [if_pos ⟨b1, b2⟩, if_pos g]
        rw [hE]
        by_cases o : p * v ≤ u * q
        · rw [if_pos (c := p * v ≤ u * q) o, if_neg]
          split
          · decide
          · rw [if_neg (by omega)]; decide
        · rw [if_neg (c := p * v ≤ u * q) o, if_neg (c := p * v < u * q) (by omega), if_pos (c := p * v > u * q) (by omega), if_pos (by decide)]
      · rw [facE2 b1 b2 g]
        unfold facR at g
        simp only at g
        by_cases q0 : 1 ≤ p ∧ p ≤ 1000
        · rw [if_neg (by simp; omega)]
          by_cases q1 : 1 ≤ u ∧ u ≤ 1000
          · rw [if_neg (by simp; omega)]
            by_cases q2 : q > 1000
            · rw [if_pos q2]
            rw [if_neg q2, if_pos (by omega)]
          · rw [if_pos (by simp; omega)]
        · rw [if_pos (by simp; omega)]
def fstE (e : Nat → Int) : Nat → Nat → Int
  | 0, _ => 0
  | m + 1, i => if e i = 0 then fstE e m (i + 1) else e i
theorem scanF {n : Nat} {e : Nat → Int} {S : Rd → Option Rd} (hs : ∀ i, i < n → S (.next 0 [iD (i : Int)]) = if e i = 0 then some (.next 0 [iD ((i + 1 : Nat) : Int)]) else some (.out 1 [iD (e i)])) (he : S (.next 0 [iD (n : Int)]) = some (.out 0 [])) :
    ∀ m i, i + m = n → runR S (.next 0 [iD (i : Int)]) = if fstE e m i = 0 then some (.out 0 []) else some (.out 1 [iD (fstE e m i)]) := by
  intro m
  induction m with
  | zero =>
    intro i hi
    have : i = n := by omega
    subst this
    rw [runR_exit he]; rfl
  | succ m ih =>
    intro i hi
    have h1 := hs i (by omega)
    unfold fstE
    by_cases h0 : e i = 0
    · rw [if_pos h0] at h1
      rw [runR_next h1, ih (i + 1) (by omega), if_pos h0]
    · rw [if_neg h0] at h1
      rw [runR_exit h1, if_neg h0, if_neg h0]
abbrev ruD (re : Int) (f : Q4) (l : List Q4) : D := .agg [iD re, iD f.a, iD f.b, iD f.c, iD f.d, lQ l]
abbrev chE (l : List Q4) : Int := fstE (fun i => facE (qAt l i)) l.length 0
/-- Why rules are refused. -/
def rulE (re : Int) (f : Q4) (l : List Q4) : Int := if 0 ≤ re ∧ re ≤ 100 then (if facE f = 0 then (if 4 < l.length then 8 else chE l) else facE f) else 2
theorem chkError_eq (n : Int) : m_69 [iD n] = some (iD (if 0 ≤ n ∧ n ≤ 100 then 0 else 2)) := by
  rw [m_69_eq]
  unfold chkError_M
  repeat' split
  all_goals first | rfl | (exfalso; omega)
theorem chkRules_eq (re : Int) (f : Q4) (l : List Q4) (hl : l.length ≤ 1000) : m_46 [ruD re f l] = some (iD (rulE re f l)) := by
  rw [m_46_eq]
  unfold chkRules_M rulE
  have h1 : m_73 [shNL1_0 f.a f.b f.c f.d] = _ := chkFactor_eq f.a f.b f.c f.d
  rw [chkError_eq, pullI, h1, pullI, f2, pullI]
  by_cases g : 0 ≤ re ∧ re ≤ 100
  · rw [if_pos g, gv0, if_pos g]
    by_cases g2 : facE f = 0
    · have g2' : facE ⟨f.a, f.b, f.c, f.d⟩ = 0 := g2
      rw [if_pos g2, if_neg (fun h => h g2')]
      by_cases g3 : 4 < l.length
      · rw [if_pos g3, if_pos (by omega)]
      · rw [if_neg g3, if_neg (by omega)]
        have h := fun x0 x1 x2 => scanF (n := l.length) (e := fun i => facE (qAt l i)) (S := chkRules_L7_S re f.a f.b f.c f.d l.length (cQ l) x0 x1 x2) (fun i hi => by
          rw [chkRules_L7_S_0]
          unfold chkRules_L7_S0
          rw [pullD_some (i : Int) (by rfl) (by rfl), if_pos (by omega), guardP_pos (by omega), show ((i : Int).toNat) = i from rfl, readQ hi, pullD_some ((qAt l i).a, (qAt l i).b, (qAt l i).c, (qAt l i).d) (by rfl) (by rfl)]
          dsimp only
          have h2 : m_73 [shNL1_0 (qAt l i).a (qAt l i).b (qAt l i).c (qAt l i).d] = _ := chkFactor_eq (qAt l i).a (qAt l i).b (qAt l i).c (qAt l i).d
          rw [h2, pullI, natI (by omega)]
          by_cases q : facE (qAt l i) = 0
          · rw [if_pos q, if_neg (fun h => h q)]
          · rw [if_neg q, if_pos q]) (by
          rw [chkRules_L7_S_0]
          unfold chkRules_L7_S0
          rw [pullD_some (l.length : Int) (by rfl) (by rfl), if_neg (by omega)]) l.length 0 (by omega)
        simp only [Int.natCast_zero] at h
        by_cases q : chE l = 0
        · rw [bindL_some ((h _ _ _).trans (if_pos q)), if_pos rfl, pullD_some () (by rfl) (by rfl), q]
        · rw [bindL_some ((h _ _ _).trans (if_neg q)), if_neg (by decide), if_pos rfl, pullD_some (chE l) (by rfl) (by rfl)]
    · have g2' : facE ⟨f.a, f.b, f.c, f.d⟩ ≠ 0 := g2
      rw [if_neg g2, if_pos g2']
  · rw [if_neg g, gv2, if_neg g, if_pos (by decide)]
theorem rulesErr_eq (re : Int) (f : Q4) (l : List Q4) (hl : l.length ≤ 1000) : m_53 [ruD re f l] = some (iD (rulE re f l)) := by
  rw [m_53_eq]
  unfold rulesErr_M rulE
  have h1 : m_83 [shNL1_0 f.a f.b f.c f.d] = _ := facErr_eq f.a f.b f.c f.d
  rw [within_eq, pullB, h1, pullI]
  by_cases g : 0 ≤ re ∧ re ≤ 100
  · rw [if_neg (by simp; omega), if_pos g]
    by_cases g2 : facE f = 0
    · have g2' : facE ⟨f.a, f.b, f.c, f.d⟩ = 0 := g2
      rw [if_pos g2, if_neg (fun h => h g2')]
      by_cases g3 : 4 < l.length
      · rw [if_pos g3, if_pos (by omega)]
      · rw [if_neg g3, if_neg (by omega)]
        have h := fun x0 x1 => scanF (n := l.length) (e := fun i => facE (qAt l i)) (S := rulesErr_L9_S re f.a f.b f.c f.d l.length (cQ l) x0 x1) (fun i hi => by
          rw [rulesErr_L9_S_0]
          unfold rulesErr_L9_S0
          rw [pullD_some (i : Int) (by rfl) (by rfl), if_pos (by omega), guardP_pos (by omega), show ((i : Int).toNat) = i from rfl, readQ hi, pullD_some ((qAt l i).a, (qAt l i).b, (qAt l i).c, (qAt l i).d) (by rfl) (by rfl)]
          dsimp only
          have h2 : m_83 [shNL1_0 (qAt l i).a (qAt l i).b (qAt l i).c (qAt l i).d] = _ := facErr_eq (qAt l i).a (qAt l i).b (qAt l i).c (qAt l i).d
          rw [h2, pullI, natI (by omega)]
          by_cases q : facE (qAt l i) = 0
          · rw [if_pos q, if_neg (fun h => h q)]
          · rw [if_neg q, if_pos q]) (by
          rw [rulesErr_L9_S_0]
          unfold rulesErr_L9_S0
          rw [pullD_some (l.length : Int) (by rfl) (by rfl), if_neg (by omega)]) l.length 0 (by omega)
        simp only [Int.natCast_zero] at h
        by_cases q : chE l = 0
        · rw [bindL_some ((h _ _).trans (if_pos q)), if_pos rfl, pullD_some () (by rfl) (by rfl), q]
        · rw [bindL_some ((h _ _).trans (if_neg q)), if_neg (by decide), if_pos rfl, pullD_some (chE l) (by rfl) (by rfl)]
    · have g2' : facE ⟨f.a, f.b, f.c, f.d⟩ ≠ 0 := g2
      rw [if_neg g2, if_pos g2']
  · rw [if_pos (by simp; omega), if_neg g]
theorem copyRules_eq (re : Int) (f : Q4) (l : List Q4) (hl : l.length ≤ 1000) : m_13 [ruD re f l] = some (ruD re f l) := by
  rw [m_13_eq]
  unfold copyRules_M
  rw [guardP_pos (by omega), guardP_pos (cQ_len l)]
abbrev reD (st : Int) (l : List Int) : D := .agg [iD st, lD l]
/-- Why a record is refused. -/
def recE (st : Int) (l : List Int) : Int := if 1 ≤ st ∧ st ≤ 1000000 then (if l.length < 3 then 10 else if 64 < l.length then 8 else if allIn (-4096) 4096 l = true then 0 else 2) else 2
theorem copyInts_eq (l : List Int) (hl : l.length ≤ 1000) : m_27 [lD l] = some (lD l) := by
  rw [m_27_eq]
  unfold copyInts_M
  rw [guardP_pos ⟨cells_int l, by omega, by omega, by omega⟩, guardP_pos (by simp), guardP_pos ⟨by simp, by omega⟩, Nat.zero_add]
theorem copyRecord_eq (st : Int) (l : List Int) (hl : l.length ≤ 1000) : m_14 [reD st l] = some (reD st l) := by
  rw [m_14_eq]
  unfold copyRecord_M
  rw [copyInts_eq l hl, pullD_some (l.length, l.map iD) (by rfl) (by rfl)]
theorem chkCount_eq (n : Nat) : m_75 [iD (n : Int)] = some (iD (if n < 3 then 10 else if 64 < n then 8 else 0)) := by
  rw [m_75_eq]
  unfold chkCount_M
  by_cases h1 : n < 3
  · rw [if_pos h1, if_pos (by omega)]
  rw [if_neg h1, if_neg (by omega)]
  by_cases h2 : 64 < n
  · rw [if_pos h2, if_pos (by omega)]
  · rw [if_neg h2, if_neg (by omega)]
theorem chkRecord_eq (st : Int) (l : List Int) (hl : l.length ≤ 1000) : m_47 [reD st l] = some (iD (recE st l)) := by
  rw [m_47_eq]
  unfold chkRecord_M recE
  rw [chkStep_eq, pullI, chkCount_eq, pullI, f2, pullI]
  unfold stepE
  by_cases g : 1 ≤ st ∧ st ≤ 1000000
  · rw [if_pos g, if_pos g, gv0]
    by_cases g1 : l.length < 3
    · rw [if_pos g1, if_pos g1, if_pos (by decide)]
    rw [if_neg g1, if_neg g1]
    by_cases g2 : 64 < l.length
    · rw [if_pos g2, if_pos g2, if_pos (by decide)]
    rw [if_neg g2, if_neg g2, if_neg (by decide)]
    have h := fun x0 x1 => scanIn l (-4096) 4096 (chkRecord_L101_2_S st l.length (l.map iD) x0 x1) (.out 1 [iD 2]) (fun _ _ e => by cases e) (fun i hi => by
      rw [chkRecord_L101_2_S_0]
      unfold chkRecord_L101_2_S0
      rw [pullD_some (i : Int) (by rfl) (by rfl), if_pos (by omega), guardP_pos (by omega), readA hi, pullD_some (at' l i) (by rfl) (by rfl), natI (by omega)]
      by_cases q : -4096 ≤ at' l i ∧ at' l i ≤ 4096
      · rw [if_neg (by omega), if_neg (by omega), if_pos q]
      · rw [if_neg q]
        by_cases q1 : at' l i < -4096
        · rw [if_pos q1]
        · rw [if_neg q1, if_pos (by omega)]) (by
      rw [chkRecord_L101_2_S_0]
      unfold chkRecord_L101_2_S0
      rw [pullD_some (l.length : Int) (by rfl) (by rfl), if_neg (by omega)])
    by_cases q : allIn (-4096) 4096 l = true
    · rw [if_pos q, bindL_some ((h _ _).trans (if_pos q)), if_pos rfl, pullD_some () (by rfl) (by rfl)]
    · rw [if_neg q, bindL_some ((h _ _).trans (if_neg q)), if_neg (by decide), if_pos rfl, pullD_some (2 : Int) (by rfl) (by rfl)]
  · rw [if_neg g, if_neg g, gv2, if_pos (by decide)]
theorem recErr_eq (st : Int) (l : List Int) (hl : l.length ≤ 1000) : m_41 [reD st l] = some (iD (recE st l)) := by
  rw [m_41_eq]
  unfold recErr_M recE
  rw [within_eq, pullB]
  by_cases g : 1 ≤ st ∧ st ≤ 1000000
  · rw [if_neg (by simp; omega), if_pos g]
    by_cases g1 : l.length < 3
    · rw [if_pos g1, if_pos (by omega)]
    rw [if_neg g1, if_neg (by omega)]
    by_cases g2 : 64 < l.length
    · rw [if_pos g2, if_pos (by omega)]
    rw [if_neg g2, if_neg (by omega)]
    have h := fun x0 => scanIn l (-4096) 4096 (recErr_L8_S st l.length (l.map iD) x0) (.out 1 [iD 2]) (fun _ _ e => by cases e) (fun i hi => by
      rw [recErr_L8_S_0]
      unfold recErr_L8_S0
      rw [pullD_some (i : Int) (by rfl) (by rfl), if_pos (by omega), guardP_pos (by omega), readA hi, pullD_some (at' l i) (by rfl) (by rfl), within_eq, pullB, natI (by omega)]
      by_cases q : -4096 ≤ at' l i ∧ at' l i ≤ 4096
      · rw [if_neg (by simp [q]), if_pos q]
      · rw [if_pos (by simpa using q), if_neg q]) (by
      rw [recErr_L8_S_0]
      unfold recErr_L8_S0
      rw [pullD_some (l.length : Int) (by rfl) (by rfl), if_neg (by omega)])
    by_cases q : allIn (-4096) 4096 l = true
    · rw [if_pos q, bindL_some ((h _).trans (if_pos q)), if_pos rfl, pullD_some () (by rfl) (by rfl)]
    · rw [if_neg q, bindL_some ((h _).trans (if_neg q)), if_neg (by decide), if_pos rfl, pullD_some (2 : Int) (by rfl) (by rfl)]
  · rw [if_pos (by simp; omega), if_neg g]
theorem few_eq (st : Int) (l : List Int) : m_10 [reD st l] = some (.one (.bool (decide ((l.length : Int) ≤ 70)))) := by
  rw [m_10_eq]
  rfl
theorem fewF_eq (re : Int) (f : Q4) (l : List Q4) : m_11 [ruD re f l] = some (.one (.bool (decide ((l.length : Int) ≤ 6)))) := by
  rw [m_11_eq]
  rfl
end Go.Proofs.Ytmohaohdbklkeaa
/- Compatible factors: one sample. -/
namespace Go.Proofs.Ytmohaohdbklkeaa
open Go.Ev Go.RowKit
set_option maxRecDepth 100000
def rdN (n d : Int) : Int := IntKind.i64.wrap (n.tdiv (absW (eu n d)))
def rdD (n d : Int) : Int := IntKind.i64.wrap (d.tdiv (absW (eu n d)))
theorem absW_pos {n d : Int} (hd : 0 < d) (h2 : d < 9223372036854775808) : absW (eu n d) ≠ 0 := by
  rw [absW_gcd hd h2]
  have : 0 < Int.gcd n d := Int.gcd_pos_of_ne_zero_right _ (by omega)
  omega
theorem reduced_eq (n : Int) {d : Int} (hd : 0 < d) (h2 : d < 9223372036854775808) : m_93 [iD n, iD d] = some (.agg [iD (rdN n d), iD (rdD n d)]) := by
  rw [m_93_eq]
  unfold reduced_M
  rw [divisor_eq, pullI, guardP_pos (absW_pos hd h2)]
  rfl
theorem lowest_eq (n : Int) {d : Int} (hd : 0 < d) (h2 : d < 9223372036854775808) : m_87 [iD n, iD d] = some (.agg [iD (rdN n d), iD (rdD n d)]) := by
  rw [m_87_eq]
  unfold lowest_M
  rw [gcdI_eq, pullI, if_neg (by omega), guardP_pos (absW_pos hd h2)]
  rfl
/-- A fraction in lowest terms is what it was. -/
theorem rd_frac {n d : Int} (hd : 0 < d) (h1 : -1000000000000 ≤ n) (h2 : n ≤ 1000000000000) (h3 : d ≤ 1000000000000) : ∃ g : Int, 0 < g ∧ n = g * rdN n d ∧ d = g * rdD n d ∧ 0 < rdD n d ∧ rdD n d ≤ d ∧ (rdN n d).natAbs ≤ n.natAbs := by
  have hg0 : 0 < Int.gcd n d := Int.gcd_pos_of_ne_zero_right _ (by omega)
  refine ⟨((Int.gcd n d : Nat) : Int), by omega, ?_⟩
  unfold rdN rdD
  rw [absW_gcd hd (by omega)]
  have b1 : (n.tdiv ((Int.gcd n d : Nat) : Int)).natAbs ≤ n.natAbs := by rw [Int.natAbs_tdiv]; exact Nat.div_le_self _ _
  have b2 : (d.tdiv ((Int.gcd n d : Nat) : Int)).natAbs ≤ d.natAbs := by rw [Int.natAbs_tdiv]; exact Nat.div_le_self _ _
  rw [wrapJ _ (by omega) (by omega), wrapJ _ (by omega) (by omega)]
  have e1 := Int.mul_tdiv_cancel' (Int.gcd_dvd_left n d)
  have e2 := Int.mul_tdiv_cancel' (Int.gcd_dvd_right n d)
  refine ⟨e1.symm, e2.symm, ?_, by omega, b1⟩
  have : 0 < ((Int.gcd n d : Nat) : Int) * d.tdiv ((Int.gcd n d : Nat) : Int) := by rw [e2]; exact hd
  refine Classical.byContradiction fun hx => ?_
  have h9 := Int.mul_le_mul_of_nonneg_left (show d.tdiv ((Int.gcd n d : Nat) : Int) ≤ 0 by omega) (show (0 : Int) ≤ ((Int.gcd n d : Nat) : Int) by omega)
  rw [Int.mul_zero] at h9
  omega
/-- An error and samples that are valid. -/
structure RX (e : Int) (y : List Int) : Prop where
  e0 : 0 ≤ e
  e1 : e ≤ 100
  l3 : 3 ≤ y.length
  l64 : y.length ≤ 64
  bnd : ∀ i, i < y.length → -4096 ≤ at' y i ∧ at' y i ≤ 4096
theorem RX.of {re st : Int} {f : Q4} {l : List Q4} {y : List Int} (h1 : rulE re f l = 0) (h2 : recE st y = 0) : RX re y := by
  unfold rulE at h1
  unfold recE at h2
  split at h1
  · rename_i g
    split at h2
    · split at h2
      · cases h2
      · split at h2
        · cases h2
        · split at h2
          · rename_i g2 g3 g4
            exact ⟨g.1, g.2, by omega, by omega, fun i hi => allIn_at g4 hi⟩
          · cases h2
    · cases h2
  · cases h1
theorem around_eq {v e : Int} (h1 : -4096 ≤ v) (h2 : v ≤ 4096) (h3 : 0 ≤ e) (h4 : e ≤ 100) : m_77 [iD v, iD e] = some (.agg [iD (v - e), iD (v + e)]) := by
  rw [m_77_eq]
  unfold around_M
  rw [wrapJ (v - e) (by omega) (by omega), wrapJ (v + e) (by omega) (by omega)]
def botE (re : Int) (f : Q4) (l : List Q4) (st : Int) (y : List Int) : Int := if rulE re f l = 0 then recE st y else rulE re f l
theorem botE_ok {re : Int} {f : Q4} {l : List Q4} {st : Int} {y : List Int} (h : botE re f l st y = 0) : rulE re f l = 0 ∧ recE st y = 0 := by
  unfold botE at h
  split at h
  · rename_i g; exact ⟨g, h⟩
  · contradiction
theorem bothErr_eq (re : Int) (f : Q4) (l : List Q4) (st : Int) (y : List Int) (hl : l.length ≤ 1000) (hy : y.length ≤ 1000) : m_17 [ruD re f l, reD st y] = some (iD (botE re f l st y)) := by
  rw [m_17_eq]
  unfold bothErr_M botE
  have a1 : m_53 [.agg [iD re, iD f.a, iD f.b, iD f.c, iD f.d, .list l.length (cQ l)]] = _ := rulesErr_eq re f l hl
  have a2 : m_41 [.agg [iD st, .list y.length (y.map iD)]] = _ := recErr_eq st y hy
  rw [a1, pullI, a2, pullI]
  by_cases g : rulE re f l = 0
  · rw [if_neg (fun h => h g), if_pos g]
  · rw [if_pos g, if_neg g]
/-! ### Fractions of any sign -/
theorem lowest_neg {n d : Int} (hd : d < 0) (h1 : -100000 ≤ n) (h2 : n ≤ 100000) (h3 : -100000 ≤ d) : m_87 [iD n, iD d] = some (.agg [iD (rdN (-n) (-d)), iD (rdD (-n) (-d))]) := by
  have g0 : 0 < Int.gcd n d := Int.gcd_pos_of_ne_zero_right _ (by omega)
  have gle : Int.gcd n d ≤ d.natAbs := Nat.le_of_dvd (by omega) (Int.gcd_dvd_natAbs_right n d)
  have e1 : absW (eu n d) = ((Int.gcd n d : Nat) : Int) := by rw [absW_eq (by rw [eu_gcd]; omega), eu_gcd]
  have e2 : absW (eu (-n) (-d)) = ((Int.gcd n d : Nat) : Int) := by
    rw [absW_eq (by rw [eu_gcd, Int.gcd_neg, Int.neg_gcd]; omega), eu_gcd, Int.gcd_neg, Int.neg_gcd]
  rw [m_87_eq]
  unfold lowest_M rdN rdD
  rw [gcdI_eq, pullI, if_pos hd, e1, e2, wrapJ (0 - _) (by omega) (by omega), guardP_pos (by omega), show (0 : Int) - ((Int.gcd n d : Nat) : Int) = -((Int.gcd n d : Nat) : Int) by omega, Int.tdiv_neg, Int.tdiv_neg, Int.neg_tdiv, Int.neg_tdiv]
/-- Parts that are not too large. -/
def sm (x : Int) : Prop := -5000 ≤ x ∧ x ≤ 5000
def dn (x : Int) : Prop := 1 ≤ x ∧ x ≤ 5000
theorem pr {x z : Int} (hx : sm x) (hz : dn z) : -25000000 ≤ x * z ∧ x * z ≤ 25000000 := by
  have := mulB (x := x) (y := z) (A := 5000) (B := 5000) hx.1 hx.2 (by have := hz.1; omega) hz.2
  omega
theorem less_eq {n d m e : Int} (hn : sm n) (hd : dn d) (hm : sm m) (he : dn e) : m_95 [.agg [iD n, iD d], .agg [iD m, iD e]] = some (.one (.bool (decide (n * e < m * d)))) := by
  have := pr hn he
  have := pr hm hd
  rw [m_95_eq]
  unfold isLess_M
  rw [wrapJ (n * e) (by omega) (by omega), wrapJ (m * d) (by omega) (by omega)]
theorem cmp_eq' {n d m e : Int} (hn : sm n) (hd : dn d) (hm : sm m) (he : dn e) : m_39 [.agg [iD n, iD d], .agg [iD m, iD e]] = some (iD (if n * e < m * d then -1 else if n * e > m * d then 1 else 0)) := by
  have := pr hn he
  have := pr hm hd
  rw [m_39_eq]
  unfold cmpI_M
  rw [wrapJ (n * e) (by omega) (by omega), wrapJ (m * d) (by omega) (by omega)]
  repeat' split
  all_goals rfl
theorem lesser_eq {n d m e : Int} (hn : sm n) (hd : dn d) (hm : sm m) (he : dn e) : m_98 [.agg [iD n, iD d], .agg [iD m, iD e]] = some (if m * d < n * e then .agg [iD m, iD e] else .agg [iD n, iD d]) := by
  rw [m_98_eq]
  unfold lesser_M
  rw [less_eq hm he hn hd, pullB]
  by_cases h : m * d < n * e
  · rw [if_pos (by simpa using h), if_pos h]
  · rw [if_neg (by simpa using h), if_neg h]
theorem greater_eq {n d m e : Int} (hn : sm n) (hd : dn d) (hm : sm m) (he : dn e) : m_99 [.agg [iD n, iD d], .agg [iD m, iD e]] = some (if n * e < m * d then .agg [iD m, iD e] else .agg [iD n, iD d]) := by
  rw [m_99_eq]
  unfold greater_M
  rw [less_eq hn hd hm he, pullB]
  by_cases h : n * e < m * d
  · rw [if_pos (by simpa using h), if_pos h]
  · rw [if_neg (by simpa using h), if_neg h]
theorem rd_sm {n d : Int} (hd : 0 < d) (hd2 : d ≤ 5000) (h1 : -5000 ≤ n) (h2 : n ≤ 5000) : sm (rdN n d) ∧ dn (rdD n d) := by
  obtain ⟨g, g0, g1, g2, g3, g4, g5⟩ := rd_frac (n := n) hd (by omega) (by omega) (by omega)
  exact ⟨⟨by omega, by omega⟩, ⟨by omega, by omega⟩⟩
/-! ### Spans -/
abbrev spD (s : Q4) : D := .agg [iD s.a, iD s.b, iD s.c, iD s.d]
structure SP (s : Q4) : Prop where
  a : sm s.a
  b : dn s.b
  c : sm s.c
  d : dn s.d
  o : s.a * s.d ≤ s.c * s.b
/-- What a condition leaves of a span, and whether there is anything. -/
def nar (t b : Int) (s : Q4) : Q4 × Bool :=
  if t = 0 then (s, decide (b ≥ 0))
  else if t > 0 then (let h := if rdN b t * s.d < s.c * rdD b t then (rdN b t, rdD b t) else (s.c, s.d); (⟨s.a, s.b, h.1, h.2⟩, !decide (h.1 * s.b < s.a * h.2)))
  else (let h := if s.a * rdD (-b) (-t) < rdN (-b) (-t) * s.b then (rdN (-b) (-t), rdD (-b) (-t)) else (s.a, s.b); (⟨h.1, h.2, s.c, s.d⟩, !decide (s.c * h.2 < h.1 * s.d)))
theorem nar_ok {t b : Int} {s : Q4} (t1 : -5000 ≤ t) (t2 : t ≤ 5000) (b1 : -5000 ≤ b) (b2 : b ≤ 5000) (h : SP s) (ho : (nar t b s).2 = true) : SP (nar t b s).1 := by
  obtain ⟨ha, hb, hc, hd, hq⟩ := h
  unfold nar at ho ⊢
  by_cases h0 : t = 0
  · rw [if_pos h0] at ho ⊢
    exact ⟨ha, hb, hc, hd, hq⟩
  rw [if_neg h0] at ho ⊢
  by_cases h1 : t > 0
  · rw [if_pos h1] at ho ⊢
    obtain ⟨r1, r2⟩ := rd_sm (n := b) h1 t2 b1 b2
    dsimp only at ho ⊢
    by_cases q : rdN b t * s.d < s.c * rdD b t
    · rw [if_pos q] at ho ⊢
      dsimp only at ho ⊢
      simp only [Bool.not_eq_true', decide_eq_false_iff_not] at ho
      exact ⟨ha, hb, r1, r2, by show s.a * rdD b t ≤ rdN b t * s.b; omega⟩
    · rw [if_neg q] at ho ⊢
      exact ⟨ha, hb, hc, hd, hq⟩
  · rw [if_neg h1] at ho ⊢
    obtain ⟨r1, r2⟩ := rd_sm (n := -b) (d := -t) (by omega) (by omega) (by omega) (by omega)
    dsimp only at ho ⊢
    by_cases q : s.a * rdD (-b) (-t) < rdN (-b) (-t) * s.b
    · rw [if_pos q] at ho ⊢
      dsimp only at ho ⊢
      simp only [Bool.not_eq_true', decide_eq_false_iff_not] at ho
      exact ⟨r1, r2, hc, hd, by show rdN (-b) (-t) * s.d ≤ s.c * rdD (-b) (-t); omega⟩
    · rw [if_neg q] at ho ⊢
      exact ⟨ha, hb, hc, hd, hq⟩
theorem narrowed_eq {t b : Int} {s : Q4} (t1 : -5000 ≤ t) (t2 : t ≤ 5000) (b1 : -5000 ≤ b) (b2 : b ≤ 5000) (h : SP s) : m_86 [.agg [iD t, iD b], spD s] = some (.tup [spD (nar t b s).1, .one (.bool (nar t b s).2)]) := by
  obtain ⟨ha, hb, hc, hd, hq⟩ := h
  rw [m_86_eq]
  unfold narrowed_M nar
  by_cases h0 : t = 0
  · rw [if_pos h0, if_pos h0]
  rw [if_neg h0, if_neg h0]
  by_cases h1 : t > 0
  · obtain ⟨r1, r2⟩ := rd_sm (n := b) h1 t2 b1 b2
    rw [if_pos h1, if_pos h1, reduced_eq b h1 (by omega), pullD_some (rdN b t, rdD b t) (by rfl) (by rfl)]
    dsimp only
    rw [lesser_eq hc hd r1 r2]
    by_cases q : rdN b t * s.d < s.c * rdD b t
    · rw [if_pos q, if_pos q, pullD_some (rdN b t, rdD b t) (by rfl) (by rfl)]
      dsimp only
      rw [less_eq r1 r2 ha hb, pullB]
    · rw [if_neg q, if_neg q, pullD_some (s.c, s.d) (by rfl) (by rfl)]
      dsimp only
      rw [less_eq hc hd ha hb, pullB]
  · obtain ⟨r1, r2⟩ := rd_sm (n := -b) (d := -t) (by omega) (by omega) (by omega) (by omega)
    rw [if_neg h1, if_neg h1, wrapJ (0 - b) (by omega) (by omega), wrapJ (0 - t) (by omega) (by omega), show 0 - b = -b by omega, show 0 - t = -t by omega, reduced_eq (-b) (by omega) (by omega), pullD_some (rdN (-b) (-t), rdD (-b) (-t)) (by rfl) (by rfl)]
    dsimp only
    rw [greater_eq ha hb r1 r2]
    by_cases q : s.a * rdD (-b) (-t) < rdN (-b) (-t) * s.b
    · rw [if_pos q, if_pos q, pullD_some (rdN (-b) (-t), rdD (-b) (-t)) (by rfl) (by rfl)]
      dsimp only
      rw [less_eq hc hd r1 r2, pullB]
    · rw [if_neg q, if_neg q, pullD_some (s.a, s.b) (by rfl) (by rfl)]
      dsimp only
      rw [less_eq hc hd ha hb, pullB]
theorem le0 (x z : Int) : decide ((if x < z then (-1 : Int) else if x > z then 1 else 0) ≤ 0) = !decide (z < x) := by
  by_cases h1 : x < z
  · rw [if_pos h1]; simp; omega
  · rw [if_neg h1]
    by_cases h2 : x > z
    · rw [if_pos h2]; simp; omega
    · rw [if_neg h2]; simp; omega
theorem lt0 (x z : Int) : ((if x < z then (-1 : Int) else if x > z then 1 else 0) < 0) ↔ x < z := by
  by_cases h1 : x < z
  · rw [if_pos h1]; omega
  · rw [if_neg h1]
    by_cases h2 : x > z
    · rw [if_pos h2]; omega
    · rw [if_neg h2]; omega
theorem gt0 (x z : Int) : ((if x < z then (-1 : Int) else if x > z then 1 else 0) > 0) ↔ z < x := by
  by_cases h1 : x < z
  · rw [if_pos h1]; omega
  · rw [if_neg h1]
    by_cases h2 : x > z
    · rw [if_pos h2]; omega
    · rw [if_neg h2]; omega
theorem limit_eq {t b : Int} {s : Q4} (t1 : -5000 ≤ t) (t2 : t ≤ 5000) (b1 : -5000 ≤ b) (b2 : b ≤ 5000) (h : SP s) : m_58 [spD s, iD t, iD b] = some (.tup [spD (nar t b s).1, .one (.bool (nar t b s).2)]) := by
  obtain ⟨ha, hb, hc, hd, hq⟩ := h
  rw [m_58_eq]
  unfold limit_M nar
  by_cases h0 : t = 0
  · rw [if_neg (by omega), if_neg (by omega), if_pos h0]
    by_cases hb0 : b < 0
    · rw [if_pos hb0, decide_eq_false (by omega)]
    · rw [if_neg hb0, cmp_eq' ha hb hc hd, pullI, le0, decide_eq_true (show b ≥ 0 by omega), decide_eq_false (by omega)]
      rfl
  rw [if_neg h0]
  by_cases h1 : t > 0
  · obtain ⟨r1, r2⟩ := rd_sm (n := b) h1 t2 b1 b2
    rw [if_pos h1, if_pos h1, lowest_eq b h1 (by omega), pullD_some (rdN b t, rdD b t) (by rfl) (by rfl)]
    dsimp only
    rw [cmp_eq' r1 r2 hc hd, pullI]
    by_cases q : rdN b t * s.d < s.c * rdD b t
    · rw [if_pos ((lt0 _ _).2 q), if_pos q, cmp_eq' ha hb r1 r2, pullI, le0]
    · rw [if_neg (fun h => q ((lt0 _ _).1 h)), if_neg q, cmp_eq' ha hb hc hd, pullI, le0]
  · obtain ⟨r1, r2⟩ := rd_sm (n := -b) (d := -t) (by omega) (by omega) (by omega) (by omega)
    rw [if_neg h1, if_neg h1, if_pos (by omega), lowest_neg (by omega) (by omega) (by omega) (by omega), pullD_some (rdN (-b) (-t), rdD (-b) (-t)) (by rfl) (by rfl)]
    dsimp only
    rw [cmp_eq' r1 r2 ha hb, pullI]
    by_cases q : s.a * rdD (-b) (-t) < rdN (-b) (-t) * s.b
    · rw [if_pos ((gt0 _ _).2 q), if_pos q, cmp_eq' r1 r2 hc hd, pullI, le0]
    · rw [if_neg (fun h => q ((gt0 _ _).1 h)), if_neg q, cmp_eq' ha hb hc hd, pullI, le0]
end Go.Proofs.Ytmohaohdbklkeaa
/- Compatible factors: the loops, the law. -/
namespace Go.Proofs.Ytmohaohdbklkeaa
open Go.Ev Go.RowKit
set_option maxRecDepth 100000
/-! ### All indexes -/
def idx (i : Nat) : Int := i
abbrev xD (n : Nat) : D := .list n ((tab n idx).map iD)
theorem readI {n i : Nat} (h : i < n) : readD ((tab n idx).map iD) ((i : Int).toNat * 1) 1 false = some (iD (i : Int)) := readT idx h
theorem growI (i : Nat) : D.list (i + (0 + 1)) (List.append (List.take (i * 1) ((tab i idx).map iD)) [dCell (.int .i64 (i : Int))]) = xD (i + 1) := by
  have h := grow_list (tab i idx) (i : Int)
  rw [tab_len] at h
  rw [h]
  show D.list (tab i idx ++ [idx i]).length ((tab i idx ++ [idx i]).map iD) = _
  rw [← tab_succ, tab_len]
theorem idx_go {n : Nat} (h1 : 1 ≤ n) {S : Rd → Option Rd} (hs : ∀ i, i < n → S (.next 0 [xD i, iD (i : Int)]) = some (.next 0 [xD (i + 1), iD ((i + 1 : Nat) : Int)])) (he : S (.next 0 [xD n, iD (n : Int)]) = some (.out 0 [xD n])) :
    runR S (.next 0 [xD 1, iD ((1 : Nat) : Int)]) = some (.out 0 [xD n]) := by
  have a := runR_scan (S := S) (fun _ => 0) (fun i => [xD i, iD (i : Int)]) (a := 1) (b := n) h1 (fun i _ h => hs i h)
  exact a.trans (runR_exit he)
abbrev cmpD (re : Int) (f : Q4) (l : List Q4) (x y : List Int) : D := .agg [iD re, iD f.a, iD f.b, iD f.c, iD f.d, lQ l, lD x, lD y]
theorem indexes_eq (re : Int) (f : Q4) (l : List Q4) (x y : List Int) (h : RX re x) : m_56 [cmpD re f l x y] = some (xD x.length) := by
  obtain ⟨e0, e1, l3, l64, hb⟩ := h
  rw [m_56_eq]
  unfold indexes_M
  have s0 : indexes_L3_S re f.a f.b f.c f.d l.length (cQ l) x.length (x.map iD) y.length (y.map iD) (.next 1 [.one (.tuple #[]), iD 0]) = some (.next 0 [xD 1, iD ((1 : Nat) : Int)]) := by
    rw [indexes_L3_S_1]
    unfold indexes_L3_S1
    rw [pullD_some (0 : Int) (by rfl) (by rfl)]
    rw [if_pos (by omega), wrapJ (0 + 1) (by decide) (by decide)]
    rfl
  have hr := idx_go (n := x.length) (S := indexes_L3_S re f.a f.b f.c f.d l.length (cQ l) x.length (x.map iD) y.length (y.map iD)) (by omega) (fun i hi => by
    rw [indexes_L3_S_0]
    unfold indexes_L3_S0
    rw [pullD_some (i, (tab i idx).map iD, (i : Int)) (by rfl) (by rfl)]
    dsimp only
    rw [if_pos (by omega), guardP_pos ⟨cells_int [(i : Int)], by rw [List.length_map, tab_len]; omega, by omega, by omega⟩, growI, natI (by omega)]) (by
    rw [indexes_L3_S_0]
    unfold indexes_L3_S0
    rw [pullD_some (x.length, (tab x.length idx).map iD, (x.length : Int)) (by rfl) (by rfl)]
    dsimp only
    rw [if_neg (by omega)])
  rw [bindL_some ((runR_next s0).trans hr), if_pos rfl, pullD_some (x.length, (tab x.length idx).map iD) (by rfl) (by rfl)]
  dsimp only
  rw [guardP_pos ⟨by rw [List.length_map, tab_len]; omega, by decide⟩]
theorem all_eq (re st : Int) (x : List Int) (h : RX re x) : m_24 [reD st x] = some (xD x.length) := by
  obtain ⟨e0, e1, l3, l64, hb⟩ := h
  rw [m_24_eq]
  unfold allR_M
  have s0 : allR_L3_S st x.length (x.map iD) (.next 1 [.one (.tuple #[]), iD 0]) = some (.next 0 [xD 1, iD ((1 : Nat) : Int)]) := by
    rw [allR_L3_S_1]
    unfold allR_L3_S1
    rw [pullD_some (0 : Int) (by rfl) (by rfl)]
    rw [if_pos (by omega), wrapJ (0 + 1) (by decide) (by decide)]
    rfl
  have hr := idx_go (n := x.length) (S := allR_L3_S st x.length (x.map iD)) (by omega) (fun i hi => by
    rw [allR_L3_S_0]
    unfold allR_L3_S0
    rw [pullD_some (i, (tab i idx).map iD, (i : Int)) (by rfl) (by rfl)]
    dsimp only
    rw [if_pos (by omega), guardP_pos ⟨cells_int [(i : Int)], by rw [List.length_map, tab_len]; omega, by omega, by omega⟩, growI, natI (by omega)]) (by
    rw [allR_L3_S_0]
    unfold allR_L3_S0
    rw [pullD_some (x.length, (tab x.length idx).map iD, (x.length : Int)) (by rfl) (by rfl)]
    dsimp only
    rw [if_neg (by omega)])
  rw [bindL_some ((runR_next s0).trans hr), if_pos rfl, pullD_some (x.length, (tab x.length idx).map iD) (by rfl) (by rfl)]
  dsimp only
  rw [guardP_pos ⟨by rw [List.length_map, tab_len]; omega, by decide⟩]
/-! ### The factors -/
theorem conditions_eq {re : Int} {f : Q4} {l : List Q4} {x y : List Int} {i : Nat} (hx : RX re x) (hy : RX re y) (h1 : i < x.length) (h2 : i < y.length) : m_85 [cmpD re f l x y, iD (i : Int)] = some (.agg [iD (at' x i - re), iD (at' y i + re), iD (-at' x i - re), iD (re - at' y i)]) := by
  obtain ⟨b1, b2⟩ := hx.bnd i h1
  obtain ⟨b3, b4⟩ := hy.bnd i h2
  have e0 := hx.e0
  have e1 := hx.e1
  rw [m_85_eq]
  unfold conditions_M
  rw [guardP_pos (by omega), readA h1, pullI, guardP_pos (by omega), around_eq b1 b2 e0 e1, pullD_some (at' x i - re, at' x i + re) (by rfl) (by rfl)]
  dsimp only
  rw [readA h2, pullI, around_eq b3 b4 e0 e1, pullD_some (at' y i - re, at' y i + re) (by rfl) (by rfl)]
  dsimp only
  rw [wrapJ (0 - (at' x i + re)) (by omega) (by omega), wrapJ (0 - (at' y i - re)) (by omega) (by omega), show 0 - (at' x i + re) = -at' x i - re by omega, show 0 - (at' y i - re) = re - at' y i by omega]
def fac (e : Int) (x y : List Int) : Nat → Nat → Q4 → Option Q4
  | 0, _, s => some s
  | m + 1, i, s => if (nar (at' x i - e) (at' y i + e) s).2 = true then (if (nar (-at' x i - e) (e - at' y i) (nar (at' x i - e) (at' y i + e) s).1).2 = true then fac e x y m (i + 1) (nar (-at' x i - e) (e - at' y i) (nar (at' x i - e) (at' y i + e) s).1).1 else none) else none
theorem fw_go {re : Int} (f : Q4) (l : List Q4) {x y : List Int} (hx : RX re x) (hy : RX re y) (hl : x.length = y.length) : ∀ (m i : Nat) (s : Q4), i + m = x.length → SP s →
    (∀ r, fac re x y m i s = some r → runR (factors_L3_S re f.a f.b f.c f.d l.length (cQ l) x.length (x.map iD) y.length (y.map iD) x.length ((tab x.length idx).map iD)) (.next 0 [iD (i : Int), iD s.a, iD s.b, iD s.c, iD s.d, iD 0]) = some (.out 0 [iD r.a, iD r.b, iD r.c, iD r.d, iD 0])) ∧
    (fac re x y m i s = none → ∃ u v w z : Int, runR (factors_L3_S re f.a f.b f.c f.d l.length (cQ l) x.length (x.map iD) y.length (y.map iD) x.length ((tab x.length idx).map iD)) (.next 0 [iD (i : Int), iD s.a, iD s.b, iD s.c, iD s.d, iD 0]) = some (.out 1 [.one (.bool false), iD u, iD v, iD w, iD z, iD 0])) := by
  have e0 := hx.e0
  have e1 := hx.e1
  have l64 := hx.l64
  intro m
  induction m with
  | zero =>
    intro i s hi _
    have : i = x.length := by omega
    subst this
    refine ⟨fun r hr => ?_, fun h => by cases h⟩
    cases hr
    refine runR_exit ?_
    rw [factors_L3_S_0]
    unfold factors_L3_S0
    rw [pullD_some ((x.length : Int), s.a, s.b, s.c, s.d, (0 : Int)) (by rfl) (by rfl)]
    dsimp only
    rw [if_neg (by omega)]
  | succ m ih =>
    intro i s hi hs
    have h1 : i < x.length := by omega
    obtain ⟨b1, b2⟩ := hx.bnd i h1
    obtain ⟨b3, b4⟩ := hy.bnd i (by omega)
    have n1 := narrowed_eq (t := at' x i - re) (b := at' y i + re) (by omega) (by omega) (by omega) (by omega) hs
    have k1 := nar_ok (t := at' x i - re) (b := at' y i + re) (by omega) (by omega) (by omega) (by omega) hs
    unfold fac
    generalize nar (at' x i - re) (at' y i + re) s = p at *
    obtain ⟨p, o⟩ := p
    cases o with
    | false =>
      refine ⟨fun r hr => (by cases hr), fun _ => ⟨s.a, s.b, s.c, s.d, runR_exit ?_⟩⟩
      rw [factors_L3_S_0]
      unfold factors_L3_S0
      rw [pullD_some ((i : Int), s.a, s.b, s.c, s.d, (0 : Int)) (by rfl) (by rfl)]
      dsimp only
      rw [if_pos (by omega), guardP_pos (by omega), readI h1, pullI, conditions_eq hx hy h1 (by omega), pullD_some (at' x i - re, at' y i + re, -at' x i - re, re - at' y i) (by rfl) (by rfl)]
      dsimp only
      rw [n1, pullD_some (p.a, p.b, p.c, p.d, false) (by rfl) (by rfl)]
      dsimp only
      rw [if_pos rfl]
    | true =>
      have hp : SP p := k1 rfl
      have n2 := narrowed_eq (t := -at' x i - re) (b := re - at' y i) (by omega) (by omega) (by omega) (by omega) hp
      have k2 := nar_ok (t := -at' x i - re) (b := re - at' y i) (by omega) (by omega) (by omega) (by omega) hp
      dsimp only
      rw [if_pos rfl]
      generalize nar (-at' x i - re) (re - at' y i) p = w at *
      obtain ⟨w, o⟩ := w
      cases o with
      | false =>
        refine ⟨fun r hr => (by cases hr), fun _ => ⟨p.a, p.b, p.c, p.d, runR_exit ?_⟩⟩
        rw [factors_L3_S_0]
        unfold factors_L3_S0
        rw [pullD_some ((i : Int), s.a, s.b, s.c, s.d, (0 : Int)) (by rfl) (by rfl)]
        dsimp only
        rw [if_pos (by omega), guardP_pos (by omega), readI h1, pullI, conditions_eq hx hy h1 (by omega), pullD_some (at' x i - re, at' y i + re, -at' x i - re, re - at' y i) (by rfl) (by rfl)]
        dsimp only
        rw [n1, pullD_some (p.a, p.b, p.c, p.d, true) (by rfl) (by rfl)]
        dsimp only
        rw [if_neg (by decide), n2, pullD_some (w.a, w.b, w.c, w.d, false) (by rfl) (by rfl)]
        dsimp only
        rw [if_pos rfl]
      | true =>
        dsimp only
        rw [if_pos rfl]
        have st : factors_L3_S re f.a f.b f.c f.d l.length (cQ l) x.length (x.map iD) y.length (y.map iD) x.length ((tab x.length idx).map iD) (.next 0 [iD (i : Int), iD s.a, iD s.b, iD s.c, iD s.d, iD 0]) = some (.next 0 [iD ((i + 1 : Nat) : Int), iD w.a, iD w.b, iD w.c, iD w.d, iD 0]) := by
          rw [factors_L3_S_0]
          unfold factors_L3_S0
          rw [pullD_some ((i : Int), s.a, s.b, s.c, s.d, (0 : Int)) (by rfl) (by rfl)]
          dsimp only
          rw [if_pos (by omega), guardP_pos (by omega), readI h1, pullI, conditions_eq hx hy h1 (by omega), pullD_some (at' x i - re, at' y i + re, -at' x i - re, re - at' y i) (by rfl) (by rfl)]
          dsimp only
          rw [n1, pullD_some (p.a, p.b, p.c, p.d, true) (by rfl) (by rfl)]
          dsimp only
          rw [if_neg (by decide), n2, pullD_some (w.a, w.b, w.c, w.d, true) (by rfl) (by rfl)]
          dsimp only
          rw [if_neg (by decide), natI (by omega)]
        rw [runR_next st]
        exact ih (i + 1) w (by omega) (k2 rfl)
abbrev Z4 : D := .agg [iD 0, iD 0, iD 0, iD 0]
def facD : Option Q4 → D
  | some r => .tup [spD r, .one (.bool true)]
  | none => .tup [Z4, .one (.bool false)]
theorem factors_eq {re : Int} {f : Q4} {l : List Q4} {x y : List Int} (hx : RX re x) (hy : RX re y) (hl : x.length = y.length) (hs : SP f) : m_55 [cmpD re f l x y, xD x.length] = some (facD (fac re x y x.length 0 f)) := by
  rw [m_55_eq]
  unfold factors_M
  obtain ⟨h1, h2⟩ := fw_go f l hx hy hl x.length 0 f (by omega) hs
  cases hf : fac re x y x.length 0 f with
  | some r =>
    have hr := h1 r hf
    have hr : runR (factors_L3_S re f.a f.b f.c f.d l.length (cQ l) x.length (x.map iD) y.length (y.map iD) x.length ((tab x.length idx).map iD)) (.next 0 [iD 0, iD f.a, iD f.b, iD f.c, iD f.d, iD 0]) = _ := hr
    rw [bindL_some hr, if_pos rfl, pullD_some (r.a, r.b, r.c, r.d, (0 : Int)) (by rfl) (by rfl)]
    rfl
  | none =>
    obtain ⟨u, v, w, z, hr⟩ := h2 hf
    have hr : runR (factors_L3_S re f.a f.b f.c f.d l.length (cQ l) x.length (x.map iD) y.length (y.map iD) x.length ((tab x.length idx).map iD)) (.next 0 [iD 0, iD f.a, iD f.b, iD f.c, iD f.d, iD 0]) = _ := hr
    rw [bindL_some hr, if_neg (by decide), if_pos rfl, pullD_some (false, u, v, w, z, (0 : Int)) (by rfl) (by rfl)]
    rfl
theorem fr_go {re : Int} (f : Q4) (l : List Q4) {st su : Int} {x y : List Int} (hx : RX re x) (hy : RX re y) (hl : x.length = y.length) : ∀ (m i : Nat) (s : Q4), i + m = x.length → SP s →
    (∀ r, fac re x y m i s = some r → runR (factorsR_L3_S re f.a f.b f.c f.d l.length (cQ l) st x.length (x.map iD) su y.length (y.map iD) x.length ((tab x.length idx).map iD)) (.next 0 [.one (.bool true), iD (i : Int), iD s.a, iD s.b, iD s.c, iD s.d]) = some (.out 0 [.one (.bool true), iD r.a, iD r.b, iD r.c, iD r.d])) ∧
    (fac re x y m i s = none → ∃ u v w z : Int, runR (factorsR_L3_S re f.a f.b f.c f.d l.length (cQ l) st x.length (x.map iD) su y.length (y.map iD) x.length ((tab x.length idx).map iD)) (.next 0 [.one (.bool true), iD (i : Int), iD s.a, iD s.b, iD s.c, iD s.d]) = some (.out 0 [.one (.bool false), iD u, iD v, iD w, iD z])) := by
  have e0 := hx.e0
  have e1 := hx.e1
  have l64 := hx.l64
  have bad : ∀ (j : Int) (u v w z : Int), runR (factorsR_L3_S re f.a f.b f.c f.d l.length (cQ l) st x.length (x.map iD) su y.length (y.map iD) x.length ((tab x.length idx).map iD)) (.next 0 [.one (.bool false), iD j, iD u, iD v, iD w, iD z]) = some (.out 0 [.one (.bool false), iD u, iD v, iD w, iD z]) := by
    intro j u v w z
    refine runR_exit ?_
    rw [factorsR_L3_S_0]
    unfold factorsR_L3_S0
    rw [pullD_some (false, j, u, v, w, z) (by rfl) (by rfl)]
    dsimp only
    by_cases h : j < (x.length : Int)
    · rw [if_pos h, if_neg (by decide)]
    · rw [if_neg h]
  intro m
  induction m with
  | zero =>
    intro i s hi _
    have : i = x.length := by omega
    subst this
    refine ⟨fun r hr => ?_, fun h => by cases h⟩
    cases hr
    refine runR_exit ?_
    rw [factorsR_L3_S_0]
    unfold factorsR_L3_S0
    rw [pullD_some (true, (x.length : Int), s.a, s.b, s.c, s.d) (by rfl) (by rfl)]
    dsimp only
    rw [if_neg (by omega)]
  | succ m ih =>
    intro i s hi hs
    have h1 : i < x.length := by omega
    have h2 : i < y.length := by omega
    obtain ⟨b1, b2⟩ := hx.bnd i h1
    obtain ⟨b3, b4⟩ := hy.bnd i h2
    have n1 := limit_eq (t := at' x i - re) (b := at' y i + re) (by omega) (by omega) (by omega) (by omega) hs
    have k1 := nar_ok (t := at' x i - re) (b := at' y i + re) (by omega) (by omega) (by omega) (by omega) hs
    have pre : ∀ (p : Q4) (o : Bool), m_58 [spD s, iD (at' x i - re), iD (at' y i + re)] = some (.tup [spD p, .one (.bool o)]) →
        factorsR_L3_S re f.a f.b f.c f.d l.length (cQ l) st x.length (x.map iD) su y.length (y.map iD) x.length ((tab x.length idx).map iD) (.next 0 [.one (.bool true), iD (i : Int), iD s.a, iD s.b, iD s.c, iD s.d]) =
        if o = true then pullD (α := Int × Int × Int × Int × Bool) (m_58 [spD p, iD (-at' x i - re), iD (re - at' y i)]) (fun d => ((D.vi (D.at (D.at d 0) 0)), (D.vi (D.at (D.at d 0) 1)), (D.vi (D.at (D.at d 0) 2)), (D.vi (D.at (D.at d 0) 3)), (D.vb (D.at d 1)))) (fun (r9, r10, r11, r12, r13) => .tup [.agg [iD r9, iD r10, iD r11, iD r12], .one (.bool r13)]) fun (r9, r10, r11, r12, r13) => (some (.next 0 [.one (.bool r13), iD ((i + 1 : Nat) : Int), iD r9, iD r10, iD r11, iD r12])) else some (.next 0 [.one (.bool o), iD ((i + 1 : Nat) : Int), iD p.a, iD p.b, iD p.c, iD p.d]) := by
      intro p o hn
      rw [factorsR_L3_S_0]
      unfold factorsR_L3_S0
      rw [pullD_some (true, (i : Int), s.a, s.b, s.c, s.d) (by rfl) (by rfl)]
      dsimp only
      rw [if_pos (by omega), if_pos rfl, guardP_pos (by omega), readI h1, pullI, guardP_pos (by omega), readA h1, pullI, pullI, guardP_pos (by omega), readA h2, pullI, wrapJ (at' x i - re) (by omega) (by omega), wrapJ (at' y i + re) (by omega) (by omega), hn, pullD_some (p.a, p.b, p.c, p.d, o) (by rfl) (by rfl)]
      dsimp only
      rw [wrapJ (0 - at' x i) (by omega) (by omega), wrapJ (0 - at' x i - re) (by omega) (by omega), wrapJ (re - at' y i) (by omega) (by omega), natI (by omega), show 0 - at' x i - re = -at' x i - re by omega]
    unfold fac
    generalize nar (at' x i - re) (at' y i + re) s = p at *
    obtain ⟨p, o⟩ := p
    have q1 := pre p o n1
    cases o with
    | false =>
      refine ⟨fun r hr => (by cases hr), fun _ => ⟨p.a, p.b, p.c, p.d, ?_⟩⟩
      rw [if_neg (by decide)] at q1
      rw [runR_next q1, bad]
    | true =>
      have hp : SP p := k1 rfl
      have n2 := limit_eq (t := -at' x i - re) (b := re - at' y i) (by omega) (by omega) (by omega) (by omega) hp
      have k2 := nar_ok (t := -at' x i - re) (b := re - at' y i) (by omega) (by omega) (by omega) (by omega) hp
      dsimp only
      rw [if_pos rfl]
      rw [if_pos rfl] at q1
      generalize nar (-at' x i - re) (re - at' y i) p = w at *
      obtain ⟨w, o⟩ := w
      rw [n2, pullD_some (w.a, w.b, w.c, w.d, o) (by rfl) (by rfl)] at q1
      dsimp only at q1
      rw [runR_next q1]
      cases o with
      | false => exact ⟨fun r hr => (by cases hr), fun _ => ⟨w.a, w.b, w.c, w.d, bad _ _ _ _ _⟩⟩
      | true =>
        dsimp only
        rw [if_pos rfl]
        exact ih (i + 1) w (by omega) (k2 rfl)
theorem factorsR_eq {re : Int} {f : Q4} {l : List Q4} {st su : Int} {x y : List Int} (hx : RX re x) (hy : RX re y) (hl : x.length = y.length) (hs : SP f) : m_23 [ruD re f l, reD st x, reD su y, xD x.length] = some (facD (fac re x y x.length 0 f)) := by
  rw [m_23_eq]
  unfold factorsR_M
  obtain ⟨h1, h2⟩ := fr_go f l (st := st) (su := su) hx hy hl x.length 0 f (by omega) hs
  cases hf : fac re x y x.length 0 f with
  | some r =>
    have hr := h1 r hf
    have hr : runR (factorsR_L3_S re f.a f.b f.c f.d l.length (cQ l) st x.length (x.map iD) su y.length (y.map iD) x.length ((tab x.length idx).map iD)) (.next 0 [.one (.bool true), iD 0, iD f.a, iD f.b, iD f.c, iD f.d]) = _ := hr
    rw [bindL_some hr, if_pos rfl, pullD_some (true, r.a, r.b, r.c, r.d) (by rfl) (by rfl)]
    rfl
  | none =>
    obtain ⟨u, v, w, z, hr⟩ := h2 hf
    have hr : runR (factorsR_L3_S re f.a f.b f.c f.d l.length (cQ l) st x.length (x.map iD) su y.length (y.map iD) x.length ((tab x.length idx).map iD)) (.next 0 [.one (.bool true), iD 0, iD f.a, iD f.b, iD f.c, iD f.d]) = _ := hr
    rw [bindL_some hr, if_pos rfl, pullD_some (false, u, v, w, z) (by rfl) (by rfl)]
    rfl
end Go.Proofs.Ytmohaohdbklkeaa
/- Compatible factors: the law. -/
namespace Go.Proofs.Ytmohaohdbklkeaa
open Go.Ev Go.RowKit
set_option maxRecDepth 100000
def timE (st su : Int) (x y : List Int) : Int := if st ≠ su then 10 else if (x.length : Int) ≠ (y.length : Int) then 10 else 0
theorem times_eq (st su : Int) (x y : List Int) : m_84 [.agg [iD st, lD x, iD su, lD y]] = some (iD (timE st su x y)) := by
  rw [m_84_eq]
  unfold chkTimes_M timE
  by_cases h1 : st ≠ su
  · rw [if_pos h1, if_pos h1]
  · rw [if_neg h1, if_neg h1]
    by_cases h2 : (x.length : Int) ≠ (y.length : Int)
    · rw [if_pos h2, if_pos h2]
    · rw [if_neg h2, if_neg h2]
/-- Why a pair is refused. -/
def prE (re : Int) (f : Q4) (l : List Q4) (st su : Int) (x y : List Int) : Int := if botE re f l st x ≠ 0 then botE re f l st x else if recE su y ≠ 0 then recE su y else timE st su x y
theorem first4 (a b c d : Int) : firstV [a, b, c, d] = if (if a = 0 then b else a) ≠ 0 then (if a = 0 then b else a) else if c ≠ 0 then c else d := by
  unfold firstV firstV firstV firstV firstV
  by_cases h1 : a = 0
  · by_cases h2 : b = 0
    · by_cases h3 : c = 0
      · by_cases h4 : d = 0 <;> simp [h1, h2, h3, h4]
      · simp [h1, h2, h3]
    · simp [h1, h2]
  · simp [h1]
theorem pairErr_eq (re : Int) (f : Q4) (l : List Q4) (st su : Int) (x y : List Int) (hl : l.length ≤ 1000) (hx : x.length ≤ 1000) (hy : y.length ≤ 1000) : m_22 [ruD re f l, reD st x, reD su y] = some (iD (prE re f l st su x y)) := by
  rw [m_22_eq]
  unfold pairErr_M prE timE
  have a1 : m_17 [.agg [iD re, iD f.a, iD f.b, iD f.c, iD f.d, .list l.length (cQ l)], .agg [iD st, .list x.length (x.map iD)]] = _ := bothErr_eq re f l st x hl hx
  have a2 : m_41 [.agg [iD su, .list y.length (y.map iD)]] = _ := recErr_eq su y hy
  rw [a1, pullI, a2, pullI]
  by_cases g1 : botE re f l st x ≠ 0
  · rw [if_pos g1, if_pos g1]
  rw [if_neg g1, if_neg g1]
  by_cases g2 : recE su y ≠ 0
  · rw [if_pos g2, if_pos g2]
  rw [if_neg g2, if_neg g2]
  by_cases g3 : st ≠ su
  · rw [if_pos g3, if_pos g3]
  rw [if_neg g3, if_neg g3]
  by_cases g4 : (x.length : Int) ≠ (y.length : Int)
  · rw [if_pos g4, if_pos g4]
  · rw [if_neg g4, if_neg g4]
theorem comparison_eq (re : Int) (f : Q4) (l : List Q4) (st su : Int) (x y : List Int) (hl : l.length ≤ 1000) (hx : x.length ≤ 1000) (hy : y.length ≤ 1000) : m_54 [ruD re f l, .agg [iD st, lD x, iD su, lD y]] = some (if prE re f l st su x y ≠ 0 then .tup [.agg [iD 0, iD 0, iD 0, iD 0, iD 0, .list 0 [], .list 0 [], .list 0 []], iD (prE re f l st su x y)] else .tup [cmpD re f l x y, iD 0]) := by
  rw [m_54_eq]
  unfold comparisonOf_M
  have a1 : m_46 [.agg [iD re, iD f.a, iD f.b, iD f.c, iD f.d, .list l.length (cQ l)]] = _ := chkRules_eq re f l hl
  have a2 : m_47 [.agg [iD st, .list x.length (x.map iD)]] = _ := chkRecord_eq st x hx
  have a3 : m_47 [.agg [iD su, .list y.length (y.map iD)]] = _ := chkRecord_eq su y hy
  have a4 : m_84 [.agg [iD st, .list x.length (x.map iD), iD su, .list y.length (y.map iD)]] = _ := times_eq st su x y
  have a5 : m_45 [.list 4 [iD (rulE re f l), iD (recE st x), iD (recE su y), iD (timE st su x y)]] = _ := firstOf_eq [rulE re f l, recE st x, recE su y, timE st su x y] (by simp)
  have a6 : firstV [rulE re f l, recE st x, recE su y, timE st su x y] = prE re f l st su x y := first4 _ _ _ _
  rw [a1, pullI, a2, pullI, a3, pullI, a4, pullI, a5, pullI, a6]
  by_cases g : prE re f l st su x y ≠ 0
  · rw [if_pos g, if_pos g]
  · rw [if_neg g, if_neg g]
theorem SP.of {re : Int} {f : Q4} {l : List Q4} (h : rulE re f l = 0) : SP f := by
  unfold rulE at h
  by_cases g0 : 0 ≤ re ∧ re ≤ 100
  · rw [if_pos g0] at h
    by_cases g : facE f = 0
    · unfold facE at g
      split at g
      · split at g
        · rename_i h2
          obtain ⟨a1, a2, b1, b2, c1, c2, d1, d2⟩ := h2
          split at g
          · rename_i h3
            exact ⟨⟨by omega, by omega⟩, ⟨by omega, by omega⟩, ⟨by omega, by omega⟩, ⟨by omega, by omega⟩, h3⟩
          · cases g
        · cases g
      · cases g
    · rw [if_neg g] at h
      exact absurd h g
  · rw [if_neg g0] at h
    cases h
structure PR (re : Int) (f : Q4) (x y : List Int) : Prop where
  hx : RX re x
  hy : RX re y
  hl : x.length = y.length
  hs : SP f
theorem PR.of {re : Int} {f : Q4} {l : List Q4} {st su : Int} {x y : List Int} (h : prE re f l st su x y = 0) : PR re f x y := by
  unfold prE at h
  by_cases g1 : botE re f l st x ≠ 0
  · rw [if_pos g1] at h
    exact absurd h g1
  rw [if_neg g1] at h
  by_cases g2 : recE su y ≠ 0
  · rw [if_pos g2] at h
    exact absurd h g2
  rw [if_neg g2] at h
  unfold timE at h
  obtain ⟨h1, h2⟩ := botE_ok (Classical.not_not.1 g1)
  by_cases g3 : st ≠ su
  · rw [if_pos g3] at h
    cases h
  rw [if_neg g3] at h
  by_cases g4 : (x.length : Int) ≠ (y.length : Int)
  · rw [if_pos g4] at h
    cases h
  exact ⟨RX.of h1 h2, RX.of h1 (Classical.not_not.1 g2), by omega, SP.of h1⟩
/-! ### What is answered -/
abbrev sol (re : Int) (f : Q4) (x y : List Int) : Option Q4 := fac re x y x.length 0 f
def foD (re : Int) (f : Q4) (l : List Q4) (st su : Int) (x y : List Int) : D := if prE re f l st su x y ≠ 0 then .tup [Z4, iD (prE re f l st su x y)] else match sol re f x y with
  | some r => .tup [spD r, iD 0]
  | none => .tup [Z4, iD 13]
def diD (re : Int) (f : Q4) (l : List Q4) (st su : Int) (x y : List Int) : D := if prE re f l st su x y ≠ 0 then .tup [iD 0, iD (prE re f l st su x y)] else match sol re f x y with
  | some _ => if re = 0 then .tup [iD 0, iD 0] else .tup [iD 1, iD 0]
  | none => .tup [iD 2, iD 0]
theorem factorsOf_eq (re : Int) (f : Q4) (l : List Q4) (st su : Int) (x y : List Int) (hl : l.length ≤ 1000) (hx : x.length ≤ 1000) (hy : y.length ≤ 1000) : m_19 [ruD re f l, reD st x, reD su y] = some (foD re f l st su x y) := by
  rw [m_19_eq]
  unfold factorsOf_M foD
  have a1 : m_54 [.agg [iD re, iD f.a, iD f.b, iD f.c, iD f.d, .list l.length (cQ l)], .agg [iD st, .list x.length (x.map iD), iD su, .list y.length (y.map iD)]] = _ := comparison_eq re f l st su x y hl hx hy
  rw [a1]
  by_cases g : prE re f l st su x y ≠ 0
  · rw [if_pos g, if_pos g, pullD_some ((0 : Int), (0 : Int), (0 : Int), (0 : Int), (0 : Int), (0 : Nat), ([] : List D), (0 : Nat), ([] : List D), (0 : Nat), ([] : List D), prE re f l st su x y) (by rfl) (by rfl)]
    dsimp only
    rw [if_pos g]
  · rw [if_neg g, if_neg g, pullD_some (re, f.a, f.b, f.c, f.d, l.length, cQ l, x.length, x.map iD, y.length, y.map iD, (0 : Int)) (by rfl) (by rfl)]
    dsimp only
    obtain ⟨px, py, pl, ps⟩ := PR.of (Classical.not_not.1 g)
    have a2 : m_56 [.agg [iD re, iD f.a, iD f.b, iD f.c, iD f.d, .list l.length (cQ l), .list x.length (x.map iD), .list y.length (y.map iD)]] = _ := indexes_eq re f l x y px
    have a3 : m_55 [.agg [iD re, iD f.a, iD f.b, iD f.c, iD f.d, .list l.length (cQ l), .list x.length (x.map iD), .list y.length (y.map iD)], .list x.length ((tab x.length idx).map iD)] = _ := factors_eq (l := l) px py pl ps
    rw [if_neg (by decide), a2, pullD_some (x.length, (tab x.length idx).map iD) (by rfl) (by rfl)]
    dsimp only
    rw [a3]
    cases hf : fac re x y x.length 0 f with
    | some r =>
      have hs : sol re f x y = some r := hf
      rw [hs]
      unfold facD
      rw [pullD_some (r.a, r.b, r.c, r.d, true) (by rfl) (by rfl)]
      dsimp only
      rw [if_neg (by decide)]
    | none =>
      have hs : sol re f x y = none := hf
      rw [hs]
      unfold facD
      rw [pullD_some ((0 : Int), (0 : Int), (0 : Int), (0 : Int), false) (by rfl) (by rfl)]
      dsimp only
      rw [if_pos rfl]
theorem prove_eq {re : Int} {f : Q4} {l : List Q4} {x y : List Int} (h : PR re f x y) : m_57 [cmpD re f l x y, xD x.length] = some (.one (.bool (sol re f x y).isNone)) := by
  obtain ⟨px, py, pl, ps⟩ := h
  rw [m_57_eq]
  unfold prove_M
  have a3 : m_55 [.agg [iD re, iD f.a, iD f.b, iD f.c, iD f.d, .list l.length (cQ l), .list x.length (x.map iD), .list y.length (y.map iD)], .list x.length ((tab x.length idx).map iD)] = _ := factors_eq (l := l) px py pl ps
  rw [a3]
  cases hf : fac re x y x.length 0 f with
  | some r =>
    have hs : sol re f x y = some r := hf
    rw [hs]
    unfold facD
    rw [pullD_some (r.a, r.b, r.c, r.d, true) (by rfl) (by rfl)]
    rfl
  | none =>
    have hs : sol re f x y = none := hf
    rw [hs]
    unfold facD
    rw [pullD_some ((0 : Int), (0 : Int), (0 : Int), (0 : Int), false) (by rfl) (by rfl)]
    rfl
theorem differenceOf_eq (re : Int) (f : Q4) (l : List Q4) (st su : Int) (x y : List Int) (hl : l.length ≤ 1000) (hx : x.length ≤ 1000) (hy : y.length ≤ 1000) : m_20 [ruD re f l, reD st x, reD su y] = some (diD re f l st su x y) := by
  rw [m_20_eq]
  unfold differenceOf_M diD
  have a1 : m_54 [.agg [iD re, iD f.a, iD f.b, iD f.c, iD f.d, .list l.length (cQ l)], .agg [iD st, .list x.length (x.map iD), iD su, .list y.length (y.map iD)]] = _ := comparison_eq re f l st su x y hl hx hy
  rw [a1]
  by_cases g : prE re f l st su x y ≠ 0
  · rw [if_pos g, if_pos g, pullD_some ((0 : Int), (0 : Int), (0 : Int), (0 : Int), (0 : Int), (0 : Nat), ([] : List D), (0 : Nat), ([] : List D), (0 : Nat), ([] : List D), prE re f l st su x y) (by rfl) (by rfl)]
    dsimp only
    rw [if_pos g]
  · rw [if_neg g, if_neg g, pullD_some (re, f.a, f.b, f.c, f.d, l.length, cQ l, x.length, x.map iD, y.length, y.map iD, (0 : Int)) (by rfl) (by rfl)]
    dsimp only
    have hp := PR.of (Classical.not_not.1 g)
    have a2 : m_56 [.agg [iD re, iD f.a, iD f.b, iD f.c, iD f.d, .list l.length (cQ l), .list x.length (x.map iD), .list y.length (y.map iD)]] = _ := indexes_eq re f l x y hp.hx
    have a3 : m_57 [.agg [iD re, iD f.a, iD f.b, iD f.c, iD f.d, .list l.length (cQ l), .list x.length (x.map iD), .list y.length (y.map iD)], .list x.length ((tab x.length idx).map iD)] = _ := prove_eq (l := l) hp
    rw [if_neg (by decide), a2, pullD_some (x.length, (tab x.length idx).map iD) (by rfl) (by rfl)]
    dsimp only
    rw [a3, pullB]
    cases hf : fac re x y x.length 0 f with
    | some r =>
      have hs : sol re f x y = some r := hf
      rw [hs, if_neg (by simp)]
      dsimp only
      by_cases h : re = 0
      · rw [if_pos h, if_pos h]
      · rw [if_neg h, if_neg h]
    | none =>
      have hs : sol re f x y = none := hf
      rw [hs, if_pos (by rfl)]
theorem differenceR_eq (re : Int) (f : Q4) (l : List Q4) (st su : Int) (x y : List Int) (hl : l.length ≤ 1000) (hx : x.length ≤ 1000) (hy : y.length ≤ 1000) : m_21 [ruD re f l, reD st x, reD su y] = some (diD re f l st su x y) := by
  rw [m_21_eq]
  unfold differenceR_M diD
  have a1 : m_22 [.agg [iD re, iD f.a, iD f.b, iD f.c, iD f.d, .list l.length (cQ l)], .agg [iD st, .list x.length (x.map iD)], .agg [iD su, .list y.length (y.map iD)]] = _ := pairErr_eq re f l st su x y hl hx hy
  rw [a1, pullI]
  by_cases g : prE re f l st su x y ≠ 0
  · rw [if_pos g, if_pos g]
  · rw [if_neg g, if_neg g]
    obtain ⟨px, py, pl, ps⟩ := PR.of (Classical.not_not.1 g)
    have a2 : m_24 [.agg [iD st, .list x.length (x.map iD)]] = _ := all_eq re st x px
    have a3 : m_23 [.agg [iD re, iD f.a, iD f.b, iD f.c, iD f.d, .list l.length (cQ l)], .agg [iD st, .list x.length (x.map iD)], .agg [iD su, .list y.length (y.map iD)], .list x.length ((tab x.length idx).map iD)] = _ := factorsR_eq (l := l) (st := st) (su := su) px py pl ps
    rw [a2, pullD_some (x.length, (tab x.length idx).map iD) (by rfl) (by rfl)]
    dsimp only
    rw [a3]
    cases hf : fac re x y x.length 0 f with
    | some r =>
      have hs : sol re f x y = some r := hf
      rw [hs]
      unfold facD
      rw [pullD_some (r.a, r.b, r.c, r.d, true) (by rfl) (by rfl)]
      dsimp only
      rw [if_neg (by decide)]
      by_cases h : re = 0
      · rw [if_pos h, if_pos h]
      · rw [if_neg h, if_neg h]
    | none =>
      have hs : sol re f x y = none := hf
      rw [hs]
      unfold facD
      rw [pullD_some ((0 : Int), (0 : Int), (0 : Int), (0 : Int), false) (by rfl) (by rfl)]
      dsimp only
      rw [if_pos rfl]
theorem law4_eq (re : Int) (f : Q4) (l : List Q4) (st su : Int) (x y : List Int) : m_4 [ruD re f l, .agg [iD st, lD x, iD su, lD y]] = some (.one (.bool true)) := by
  rw [m_4_eq]
  unfold law4_M
  have a1 : m_10 [.agg [iD st, .list x.length (x.map iD)]] = _ := few_eq st x
  have a2 : m_10 [.agg [iD su, .list y.length (y.map iD)]] = _ := few_eq su y
  have a3 : m_11 [.agg [iD re, iD f.a, iD f.b, iD f.c, iD f.d, .list l.length (cQ l)]] = _ := fewF_eq re f l
  rw [m_9_eq, pullB, if_neg (by decide), a1, pullB]
  by_cases g1 : ¬ (x.length : Int) ≤ 70
  · rw [if_pos (by simpa using g1)]
  have g1 := Classical.not_not.1 g1
  rw [if_neg (by simpa using g1), a2, pullB]
  by_cases g2 : ¬ (y.length : Int) ≤ 70
  · rw [if_pos (by simpa using g2)]
  have g2 := Classical.not_not.1 g2
  rw [if_neg (by simpa using g2), a3, pullB]
  by_cases g3 : ¬ (l.length : Int) ≤ 6
  · rw [if_pos (by simpa using g3)]
  have g3 := Classical.not_not.1 g3
  have hl : l.length ≤ 1000 := by omega
  have hx : x.length ≤ 1000 := by omega
  have hy : y.length ≤ 1000 := by omega
  have b1 : m_13 [.agg [iD re, iD f.a, iD f.b, iD f.c, iD f.d, .list l.length (cQ l)]] = _ := copyRules_eq re f l hl
  have b2 : m_14 [.agg [iD st, .list x.length (x.map iD)]] = _ := copyRecord_eq st x hx
  have b3 : m_14 [.agg [iD su, .list y.length (y.map iD)]] = _ := copyRecord_eq su y hy
  have c1 : m_19 [.agg [iD re, iD f.a, iD f.b, iD f.c, iD f.d, .list l.length (cQ l)], .agg [iD st, .list x.length (x.map iD)], .agg [iD su, .list y.length (y.map iD)]] = _ := factorsOf_eq re f l st su x y hl hx hy
  have c2 : m_20 [.agg [iD re, iD f.a, iD f.b, iD f.c, iD f.d, .list l.length (cQ l)], .agg [iD st, .list x.length (x.map iD)], .agg [iD su, .list y.length (y.map iD)]] = _ := differenceOf_eq re f l st su x y hl hx hy
  have c3 : m_21 [.agg [iD re, iD f.a, iD f.b, iD f.c, iD f.d, .list l.length (cQ l)], .agg [iD st, .list x.length (x.map iD)], .agg [iD su, .list y.length (y.map iD)]] = _ := differenceR_eq re f l st su x y hl hx hy
  have c4 : m_22 [.agg [iD re, iD f.a, iD f.b, iD f.c, iD f.d, .list l.length (cQ l)], .agg [iD st, .list x.length (x.map iD)], .agg [iD su, .list y.length (y.map iD)]] = _ := pairErr_eq re f l st su x y hl hx hy
  have copies : ∀ {β : Type} (k : Int × Int × Int × Int × Int × Nat × List D → Option β), pullD (some (ruD re f l)) (fun d => ((D.vi (D.at d 0)), (D.vi (D.at d 1)), (D.vi (D.at d 2)), (D.vi (D.at d 3)), (D.vi (D.at d 4)), (D.ln (D.at d 5)), (D.lc (D.at d 5)))) (fun (r4, r5, r6, r7, r8, k9, c10) => .agg [iD r4, iD r5, iD r6, iD r7, iD r8, .list k9 c10]) k = k (re, f.a, f.b, f.c, f.d, l.length, cQ l) := fun k => pullD_some (re, f.a, f.b, f.c, f.d, l.length, cQ l) (by rfl) (by rfl)
  have copyX : ∀ {β : Type} (s : Int) (z : List Int) (k : Int × Nat × List D → Option β), pullD (some (reD s z)) (fun d => ((D.vi (D.at d 0)), (D.ln (D.at d 1)), (D.lc (D.at d 1)))) (fun (r11, k12, c13) => .agg [iD r11, .list k12 c13]) k = k (s, z.length, z.map iD) := fun s z k => pullD_some (s, z.length, z.map iD) (by rfl) (by rfl)
  rw [if_neg (by simpa using g3), b1, copies]
  dsimp only
  rw [b2, copyX]
  dsimp only
  rw [b3, copyX]
  dsimp only
  rw [c1]
  by_cases g : prE re f l st su x y ≠ 0
  · have d1 : foD re f l st su x y = .tup [Z4, iD (prE re f l st su x y)] := by unfold foD; rw [if_pos g]
    have d2 : diD re f l st su x y = .tup [iD 0, iD (prE re f l st su x y)] := by unfold diD; rw [if_pos g]
    rw [d1, pullD_some ((0 : Int), (0 : Int), (0 : Int), (0 : Int), prE re f l st su x y) (by rfl) (by rfl)]
    dsimp only
    rw [copies]
    dsimp only
    rw [copyX]
    dsimp only
    rw [copyX]
    dsimp only
    rw [c2, d2, pullD_some ((0 : Int), prE re f l st su x y) (by rfl) (by rfl)]
    dsimp only
    rw [c3, d2, pullD_some ((0 : Int), prE re f l st su x y) (by rfl) (by rfl)]
    dsimp only
    rw [if_neg (by simp), if_neg (by simp), c4, pullI, if_pos g, if_pos rfl]
    simp
  · obtain ⟨px, py, pl, ps⟩ := PR.of (Classical.not_not.1 g)
    have e2 : m_24 [.agg [iD st, .list x.length (x.map iD)]] = _ := all_eq re st x px
    have e3 : m_23 [.agg [iD re, iD f.a, iD f.b, iD f.c, iD f.d, .list l.length (cQ l)], .agg [iD st, .list x.length (x.map iD)], .agg [iD su, .list y.length (y.map iD)], .list x.length ((tab x.length idx).map iD)] = _ := factorsR_eq (l := l) (st := st) (su := su) px py pl ps
    obtain ⟨n, hn⟩ : ∃ n : Int, diD re f l st su x y = .tup [iD n, iD 0] := by
      unfold diD
      rw [if_neg g]
      cases sol re f x y with
      | none => exact ⟨2, rfl⟩
      | some r =>
        by_cases h : re = 0
        · exact ⟨0, if_pos h⟩
        · exact ⟨1, if_neg h⟩
    cases hf : fac re x y x.length 0 f with
    | some r =>
      have d1 : foD re f l st su x y = .tup [spD r, iD 0] := by unfold foD; rw [if_neg g]; unfold sol; rw [hf]
      rw [hf] at e3
      rw [d1, pullD_some (r.a, r.b, r.c, r.d, (0 : Int)) (by rfl) (by rfl)]
      dsimp only
      rw [copies]
      dsimp only
      rw [copyX]
      dsimp only
      rw [copyX]
      dsimp only
      rw [c2, hn, pullD_some (n, (0 : Int)) (by rfl) (by rfl)]
      dsimp only
      rw [c3, hn, pullD_some (n, (0 : Int)) (by rfl) (by rfl)]
      dsimp only
      rw [if_neg (by simp), if_neg (by simp), c4, pullI, if_neg g, e2, pullD_some (x.length, (tab x.length idx).map iD) (by rfl) (by rfl)]
      dsimp only
      rw [e3]
      unfold facD
      rw [pullD_some (r.a, r.b, r.c, r.d, true) (by rfl) (by rfl)]
      dsimp only
      rw [if_neg (by decide), if_pos rfl]
      simp
    | none =>
      have d1 : foD re f l st su x y = .tup [Z4, iD 13] := by unfold foD; rw [if_neg g]; unfold sol; rw [hf]
      rw [hf] at e3
      rw [d1, pullD_some ((0 : Int), (0 : Int), (0 : Int), (0 : Int), (13 : Int)) (by rfl) (by rfl)]
      dsimp only
      rw [copies]
      dsimp only
      rw [copyX]
      dsimp only
      rw [copyX]
      dsimp only
      rw [c2, hn, pullD_some (n, (0 : Int)) (by rfl) (by rfl)]
      dsimp only
      rw [c3, hn, pullD_some (n, (0 : Int)) (by rfl) (by rfl)]
      dsimp only
      rw [if_neg (by simp), if_neg (by simp), c4, pullI, if_neg g, e2, pullD_some (x.length, (tab x.length idx).map iD) (by rfl) (by rfl)]
      dsimp only
      rw [e3]
      unfold facD
      rw [pullD_some ((0 : Int), (0 : Int), (0 : Int), (0 : Int), false) (by rfl) (by rfl)]
      dsimp only
      rw [if_pos rfl, if_pos rfl]
      simp
theorem law4_con (re : Int) (f : Q4) (l : List Q4) (st su : Int) (x y : List Int) : Con 4 [ruD re f l, .agg [iD st, lD x, iD su, lD y]] (.one (.bool true)) := m_4_ok (law4_eq re f l st su x y)
end Go.Proofs.Ytmohaohdbklkeaa
/- WaveFactors: what the runs give, for every argument. -/
namespace Go.Proofs.Ytmohaohdbklkeaa.waveFactors
open Go.ChangeShapes Go.WideShapes Go.ChangeAt Go.RowKit Go.Joins Go.Ev
set_option maxRecDepth 100000 in
/-- WHAT THE RUNS GIVE, FOR EVERY ARGUMENT AND EVERY WORLD THAT HOLDS THE TABLES. -/
theorem contract (H : Type) (enc : TypeId × Value → H) (W : World) (base : Nat) (args : Array Value) (ds gs : List (DataW H)) (before : List MemPlace)
    (hval : ∀ (j : Nat) t v, Try.f4.params[j]? = some t → args[j]? = some v → Value.okWide Try.prog W .any base t v)
    (hW : DataW.Whole enc Try.prog Try.f4.params.toList Rows.waveFactorsSpec.vars false W args.toList ds gs before) (hL : laidMetH Try.prog Rows.waveFactorsRow.laid W) :
    Calls Try.prog 4 args W fun e W' => ∃ v, e = .returned v ∧ Rows.waveFactorsSpec.post enc Try.prog Try.f4 false true false false W args v W' := by
  have hW' := hW
  have hlt := hW.lt
  obtain ⟨p, q, hA0, hV, rfl, hfz, hnd⟩ := hW
  have hA : DataW.TrodAll enc Try.prog W 0 (fun _ => true) true Try.f4.params.toList args.toList ds p := hA0
  rw [Try.params4] at hA hval
  obtain ⟨v0, vs0, d0, ds0, p0, q0, hargs, rfl, rfl, h0, r0⟩ := trodAll_cons hA
  obtain ⟨v1, vs1, d1, ds1, p1, q1, rfl, rfl, rfl, h1, r1⟩ := trodAll_cons r0
  obtain ⟨rfl, rfl, rfl⟩ := trodAll_nil r1
  obtain rfl : args = #[v0, v1] := by cases args; simp_all
  obtain ⟨rfl, rfl⟩ := trodVars_none hV
  obtain ⟨e0, o0, k0⟩ := open_agg (ls := [.int .i64, .int .i64, .int .i64, .int .i64, .int .i64, .sl [.int .i64, .int .i64, .int .i64, .int .i64]]) 8 (by kernel_rfl) (by kernel_rfl) (by kernel_rfl) (hval 0 28 v0 rfl rfl) h0
  obtain ⟨re, f, l, rfl⟩ := rul_of o0
  obtain ⟨e1, o1, k1⟩ := open_agg (ls := [.int .i64, .sl [.int .i64], .int .i64, .sl [.int .i64]]) 8 (by kernel_rfl) (by kernel_rfl) (by kernel_rfl) (hval 1 53 v1 rfl rfl) h1
  obtain ⟨st, su, x, y, rfl⟩ := pair_of o1
  have hr : RpL (fun _ => True) W [.agg [.one (.int .i64 re), .one (.int .i64 f.a), .one (.int .i64 f.b), .one (.int .i64 f.c), .one (.int .i64 f.d), .list l.length (cQ l)], .agg [.one (.int .i64 st), lD x, .one (.int .i64 su), lD y]] [v0, v1] := by
    simp only [RpL]
    exact ⟨v0, _, rfl, k0, ⟨v1, _, rfl, k1, rfl⟩⟩
  refine (law4_con re f l st su x y W (fun _ => True) _ tabs0 hr).mono fun e W' ⟨v, he, hv, hg⟩ => ?_
  simp only [Rp] at hv
  subst he
  subst hv
  have hlaid : laidOutB Try.prog = true := by kernel_rfl
  exact ⟨_, rfl, post_below (pa := (p0 ++ (p1 ++ []))) (pv := []) hW' (fun _ _ _ => trodAll_cons_mk (shut_bool Try.underlying4 _) trodAll_mk0) (fun sp hsp => by
    rw [Try.params4]
    exact trodAll_cons_mk (stays hlaid (by kernel_rfl) (of_decide_eq_true (by kernel_rfl)) h0 hg (fun x hx => hlt x (by simp only [List.mem_append]; left; left; exact hx)) (fun x hx => hsp x (by simp only [List.mem_append]; left; left; exact hx))) (trodAll_cons_mk (stays hlaid (by kernel_rfl) (of_decide_eq_true (by kernel_rfl)) h1 hg (fun x hx => hlt x (by simp only [List.mem_append]; left; right; left; exact hx)) (fun x hx => hsp x (by simp only [List.mem_append]; left; right; left; exact hx))) (trodAll_mk0))) (fun _ _ => rfl) rfl
    hg (ok_one (by kernel_rfl) rfl (okWide_bool_mk Try.underlying4 _))⟩
end Go.Proofs.Ytmohaohdbklkeaa.waveFactors
/- WaveFactors: closed facts of the witness. -/
namespace Go.Proofs.Ytmohaohdbklkeaa.waveFactors
open Go.ChangeShapes Go.WideShapes Go.ChangeAt Go.RowKit Go.Joins
/-- THE WITNESS's ARGUMENTS. -/
noncomputable def args0 : Array Value := #[.agg #[.int .i64 0, .int .i64 0, .int .i64 0, .int .i64 0, .int .i64 0, .slice none 0 0], .agg #[.int .i64 0, .slice none 0 0, .int .i64 0, .slice none 0 0]]
/-- A WORLD FOR THE WITNESS: the heap that the program's own initialisers leave. -/
noncomputable def start (os : Os) : World := World.doorLaid Try.prog 400 os
theorem laid_met (os : Os) : laidMet Try.prog Rows.waveFactorsRow.laid ((start os).forCall (fun _ _ => 0) ⟨#[], args0, []⟩).memory := ⟨[], rfl, List.nodup_nil, fun _ _ h => by cases h⟩
theorem reads (os : Os) {H : Type} (enc : TypeId × Value → H) : ∃ places, DataW.whole enc Try.prog ((start os).forCall (fun _ _ => 0) ⟨#[], args0, []⟩).memory Try.f4.params.toList Rows.waveFactorsSpec.vars false args0.toList 8 = some ([.agg [.lit (.int .i64 0), .agg [.agg [.lit (.int .i64 0), .lit (.int .i64 0)], .agg [.lit (.int .i64 0), .lit (.int .i64 0)]], .nil], .agg [.agg [.lit (.int .i64 0), .nil], .agg [.lit (.int .i64 0), .nil]]], [], places) :=
  ⟨[], by kernel_rfl⟩
theorem vB (os : Os) : ((start os).forCall (fun _ _ => 0) ⟨#[], args0, []⟩).variablesB Try.prog = true := by kernel_rfl
theorem rB (os : Os) : (((start os).forCall (fun _ _ => 0) ⟨#[], args0, []⟩).heap.toList.drop Try.prog.globals.size).take ((begin Try.prog (fun _ _ => 0) default).world.heap.size - Try.prog.globals.size) = (begin Try.prog (fun _ _ => 0) default).world.heap.toList.drop Try.prog.globals.size := by kernel_rfl
theorem oB (os : Os) : Input.okWideB Try.prog ((start os).forCall (fun _ _ => 0) ⟨#[], args0, []⟩) 4 ⟨#[], args0, []⟩ = true := by kernel_rfl
theorem hB (os : Os) : (start os).os = os := by kernel_rfl
end Go.Proofs.Ytmohaohdbklkeaa.waveFactors
/- For any rules and pair of records, valid or not, the law WaveFactors of the program answers true, and its arguments read as they did. CONDITIONS: none. -/
namespace Go.Proofs.Ytmohaohdbklkeaa.waveFactors
open Go.ChangeShapes Go.WideShapes Go.ChangeAt Go.RowKit Go.Joins
set_option maxRecDepth 100000 in
theorem lifted (os : Os) (started : os.Started) (H : Type) (enc : TypeId × Value → H) (F : Stop.Interp) :
    ReturnsInHanded {} Try.checked os 4 .any ((OpenSpec.ofChange Rows.waveFactorsSpec).preRow enc Try.prog Try.f4 Rows.waveFactorsRow.domain false Rows.waveFactorsRow.laid) (((OpenSpec.ofChange Rows.waveFactorsSpec).at F).post enc Try.prog Try.f4 false true false false) := by
  obtain ⟨places, hx⟩ := reads os enc
  refine returnsInHanded_of_row (C := Try.checked) (s := OpenSpec.ofChange Rows.waveFactorsSpec) own started (by kernel_rfl) Try.func4
    (witness_row_at (enc := enc) (C := Try.checked) false (start os) args0 (hB os) (vB os) (rB os) (oB os)
      (OpenSpec.preRow_of_cond 8 hx (by kernel_rfl) (fun k hk => by cases hk) (by kernel_rfl) (laid_met os))) ?_
  intro W base args ds gs before hval hW _ _ _ hL _ _
  exact contract H enc W base args ds gs before hval hW hL
theorem said : Rows.WaveFactorsSaid :=
  OpenClaim.holds_of_cond 4 Try.f4 rfl rfl rfl rfl rfl rfl rfl ⟨rfl, rfl, rfl, rfl, rfl⟩ rfl rfl rfl rfl rfl (by kernel_rfl) Try.func4 (by kernel_rfl)
    (of_decide_eq_true (by kernel_rfl)) (by unfold Func.isWrapper; first | (rw [if_pos (by decide +kernel)]; kernel_rfl) | (rw [if_neg (by decide +kernel)]; exact ⟨rfl, rfl⟩))
    (fun os started H enc _ F => by rw [OpenClaim.pre_eq_preRow]; exact lifted os started H enc F)
end Go.Proofs.Ytmohaohdbklkeaa.waveFactors
