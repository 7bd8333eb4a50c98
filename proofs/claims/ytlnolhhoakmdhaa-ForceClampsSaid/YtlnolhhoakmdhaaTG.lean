/- For any clamp, fault, unit force and coil, valid or not, the law ForceClamps of the program answers true, and its arguments read as they did. CONDITIONS: none. -/
import Derived.Test.YtlnolhhoakmdhaaTD
import Derived.Test.YtlnolhhoakmdhaaTE
import Derived.Test.YtlnolhhoakmdhaaTF
import Derived.Test.YtlnolhhoakmdhaaTA
set_option linter.unusedVariables false
set_option linter.unusedSimpArgs false
set_option linter.unusedSectionVars false
set_option linter.unnecessarySimpa false
namespace Go.Proofs.Ytlnolhhoakmdhaa
open Go.Ev Go.RowKit
set_option maxRecDepth 100000
set_option maxHeartbeats 8000000
set_option linter.all false
noncomputable section
abbrev shNF4_0 (a0 : Int) (a1 : Int) (a2 : Int) (a3 : Int) : D := .agg [.one (.int .i64 a0), .one (.int .i64 a1), .one (.int .i64 a2), .one (.int .i64 a3)]
def shNF4_0P (d : D) : Int × Int × Int × Int := (D.vi (D.at d 0), D.vi (D.at d 1), D.vi (D.at d 2), D.vi (D.at d 3))
abbrev shNF4_1 (a0 : Int) (a1 : Int) (a2 : Int) (a3 : Int) (a4 : Int) (a5 : Int) : D := .agg [.one (.int .i64 a0), .one (.int .i64 a1), .one (.int .i64 a2), .one (.int .i64 a3), .one (.int .i64 a4), .one (.int .i64 a5)]
abbrev shNF4_2 (a0 : Int) (a1 : Int) (a2 : Int) (a3 : Int) (a4 : Int) (a5 : Int) (a6 : Int) : D := .agg [.one (.int .i64 a0), .one (.int .i64 a1), .one (.int .i64 a2), .one (.int .i64 a3), .one (.int .i64 a4), .one (.int .i64 a5), .one (.int .i64 a6)]
def clamped_sp : List LSpec := []
def clamped_M (pa pb pc pd pe pf : Int) : Option D := some (.agg [iD (IntKind.i64.wrap (pa - IntKind.i64.wrap (pd * pf))), iD (IntKind.i64.wrap (pb - IntKind.i64.wrap (pc * pe)))])
theorem clamped_M_ok (pa pb pc pd pe pf : Int) {r : D} (h : clamped_M pa pb pc pd pe pf = some r) : Con 116 [(shNF4_1 pa pb pc pd pe pf)] r := by
  unfold clamped_M at h
  obtain rfl := Option.some.inj h
  exact con_pc (op := true) (I := [116]) (sp := clamped_sp) 3000 [] [] [] [] (by kernel_rfl)
def m_116 (ds : List D) : Option D := pullD (α := Int × Int × Int × Int × Int × Int) (some (.tup ds)) (fun d => ((D.vi (D.at (D.at d 0) 0)), (D.vi (D.at (D.at d 0) 1)), (D.vi (D.at (D.at d 0) 2)), (D.vi (D.at (D.at d 0) 3)), (D.vi (D.at (D.at d 0) 4)), (D.vi (D.at (D.at d 0) 5)))) (fun (pa, pb, pc, pd, pe, pf) => .tup [(shNF4_1 pa pb pc pd pe pf)]) fun (pa, pb, pc, pd, pe, pf) => clamped_M pa pb pc pd pe pf
theorem m_116_ok {ds : List D} {r : D} (h : m_116 ds = some r) : Con 116 ds r := by
  unfold m_116 at h
  obtain ⟨⟨pa, pb, pc, pd, pe, pf⟩, e0, h0⟩ := pullD_elim h
  obtain rfl := tup_inj e0
  exact clamped_M_ok pa pb pc pd pe pf h0
theorem m_116_eq (pa pb pc pd pe pf : Int) : m_116 [(shNF4_1 pa pb pc pd pe pf)] = clamped_M pa pb pc pd pe pf := pullD_some (pa, pb, pc, pd, pe, pf) rfl rfl
def clampedOf_sp : List LSpec := []
def clampedOf_M (pa pb pc pd pe pf : Int) : Option D := pullD (α := Int) (m_115 [(shNF4_1 pa pb pc pd pe pf)]) (fun d => ((D.vi d))) (fun r0 => iD r0) fun r0 => ((if r0 ≠ (0 : Int) then some (.tup [.agg [iD (0 : Int), iD (0 : Int)], iD r0]) else pullD (α := Int × Int) (m_116 [(shNF4_1 pa pb pc pd pe pf)]) (fun d => ((D.vi (D.at d 0)), (D.vi (D.at d 1)))) (fun (r1, r2) => .agg [iD r1, iD r2]) fun (r1, r2) => (some (.tup [.agg [iD r1, iD r2], iD (0 : Int)]))))
theorem clampedOf_M_ok (pa pb pc pd pe pf : Int) {r : D} (h : clampedOf_M pa pb pc pd pe pf = some r) : Con 58 [(shNF4_1 pa pb pc pd pe pf)] r := by
  unfold clampedOf_M at h
  obtain ⟨r0, f1_, h2_⟩ := pullD_elim h
  replace f1_ := m_115_ok f1_
  by_cases b3_ : r0 ≠ (0 : Int)
  · have h4_ := (if_pos b3_).symm.trans h2_
    obtain rfl := Option.some.inj h4_
    exact con_pc (op := true) (I := [58]) (sp := clampedOf_sp) 3000 (bT 1 []) [iD r0] [c_b b3_] [k_c f1_] (by kernel_rfl)
  have h4_ := (if_neg b3_).symm.trans h2_
  have b5_ : r0 = (0 : Int) := by first | exact b3_ | simpa using b3_
  obtain ⟨⟨r1, r2⟩, f6_, h7_⟩ := pullD_elim h4_
  replace f6_ := m_116_ok f6_
  obtain rfl := Option.some.inj h7_
  exact con_pc (op := true) (I := [58]) (sp := clampedOf_sp) 3000 (bF 1 []) [iD r0, .agg [iD r1, iD r2]] [c_bn b5_] [k_c f1_, k_c f6_] (by kernel_rfl)
def m_58 (ds : List D) : Option D := pullD (α := Int × Int × Int × Int × Int × Int) (some (.tup ds)) (fun d => ((D.vi (D.at (D.at d 0) 0)), (D.vi (D.at (D.at d 0) 1)), (D.vi (D.at (D.at d 0) 2)), (D.vi (D.at (D.at d 0) 3)), (D.vi (D.at (D.at d 0) 4)), (D.vi (D.at (D.at d 0) 5)))) (fun (pa, pb, pc, pd, pe, pf) => .tup [(shNF4_1 pa pb pc pd pe pf)]) fun (pa, pb, pc, pd, pe, pf) => clampedOf_M pa pb pc pd pe pf
theorem m_58_ok {ds : List D} {r : D} (h : m_58 ds = some r) : Con 58 ds r := by
  unfold m_58 at h
  obtain ⟨⟨pa, pb, pc, pd, pe, pf⟩, e0, h0⟩ := pullD_elim h
  obtain rfl := tup_inj e0
  exact clampedOf_M_ok pa pb pc pd pe pf h0
theorem m_58_eq (pa pb pc pd pe pf : Int) : m_58 [(shNF4_1 pa pb pc pd pe pf)] = clampedOf_M pa pb pc pd pe pf := pullD_some (pa, pb, pc, pd, pe, pf) rfl rfl
def stays_sp : List LSpec := []
def stays_M (pa pb pc pd pe pf : Int) (a b c d n m u : Int) : Option D := pullD (α := Int) (m_115 [(shNF4_1 pa pb pc pd pe pf)]) (fun d => ((D.vi d))) (fun r0 => iD r0) fun r0 => ((if r0 ≠ (0 : Int) then some (.tup [iD (0 : Int), iD r0]) else pullD (α := Int × Int × Int × Int × Int × Int × Int) (m_98 [(shNF4_1 a b c d n m)]) (fun d => ((D.vi (D.at (D.at d 0) 0)), (D.vi (D.at (D.at d 0) 1)), (D.vi (D.at (D.at d 0) 2)), (D.vi (D.at (D.at d 0) 3)), (D.vi (D.at (D.at d 0) 4)), (D.vi (D.at (D.at d 0) 5)), (D.vi (D.at d 1)))) (fun (r1, r2, r3, r4, r5, r6, r7) => .tup [(shNF4_1 r1 r2 r3 r4 r5 r6), iD r7]) fun (r1, r2, r3, r4, r5, r6, r7) => (pullD (α := Int) (m_100 [iD u]) (fun d => ((D.vi d))) (fun r8 => iD r8) fun r8 => (pullD (α := Int) (m_83 [.list 2 [iD r7, iD r8]]) (fun d => ((D.vi d))) (fun r9 => iD r9) fun r9 => ((if r9 ≠ (0 : Int) then some (.tup [iD (0 : Int), iD r9]) else pullD (α := Int × Int) (m_116 [(shNF4_1 pa pb pc pd pe pf)]) (fun d => ((D.vi (D.at d 0)), (D.vi (D.at d 1)))) (fun (r10, r11) => .agg [iD r10, iD r11]) fun (r10, r11) => (pullD (α := Int × Int) (m_118 [(shNF4_1 r1 r2 r3 r4 r5 r6), iD u]) (fun d => ((D.vi (D.at d 0)), (D.vi (D.at d 1)))) (fun (r12, r13) => .agg [iD r12, iD r13]) fun (r12, r13) => (pullD (α := Int) (m_117 [.agg [iD r10, iD r11], .agg [iD r12, iD r13]]) (fun d => ((D.vi d))) (fun r14 => iD r14) fun r14 => (some (.tup [iD r14, iD (0 : Int)]))))))))))
theorem stays_M_ok (pa pb pc pd pe pf : Int) (a b c d n m u : Int) {r : D} (h : stays_M pa pb pc pd pe pf a b c d n m u = some r) : Con 59 [(shNF4_1 pa pb pc pd pe pf), (shNF4_1 a b c d n m), iD u] r := by
  unfold stays_M at h
  obtain ⟨r0, f1_, h2_⟩ := pullD_elim h
  replace f1_ := m_115_ok f1_
  by_cases b3_ : r0 ≠ (0 : Int)
  · have h4_ := (if_pos b3_).symm.trans h2_
    obtain rfl := Option.some.inj h4_
    exact con_pc (op := true) (I := [59]) (sp := stays_sp) 3000 (bT 1 []) [iD r0] [c_b b3_] [k_c f1_] (by kernel_rfl)
  have h4_ := (if_neg b3_).symm.trans h2_
  have b5_ : r0 = (0 : Int) := by first | exact b3_ | simpa using b3_
  obtain ⟨⟨r1, r2, r3, r4, r5, r6, r7⟩, f6_, h7_⟩ := pullD_elim h4_
  replace f6_ := m_98_ok f6_
  obtain ⟨r8, f8_, h9_⟩ := pullD_elim h7_
  replace f8_ := m_100_ok f8_
  obtain ⟨r9, f10_, h11_⟩ := pullD_elim h9_
  replace f10_ := m_83_ok f10_
  by_cases b12_ : r9 ≠ (0 : Int)
  · have h13_ := (if_pos b12_).symm.trans h11_
    obtain rfl := Option.some.inj h13_
    exact con_pc (op := true) (I := [59]) (sp := stays_sp) 3000 (bF 1 (bT 1 [])) [iD r0, .tup [(shNF4_1 r1 r2 r3 r4 r5 r6), iD r7], iD r8, iD r9] [c_bn b5_, c_le 1, c_b b12_] [k_c f1_, k_c f6_, k_c f8_, k_c f10_] (by kernel_rfl)
  have h13_ := (if_neg b12_).symm.trans h11_
  have b14_ : r9 = (0 : Int) := by first | exact b12_ | simpa using b12_
  obtain ⟨⟨r10, r11⟩, f15_, h16_⟩ := pullD_elim h13_
  replace f15_ := m_116_ok f15_
  obtain ⟨⟨r12, r13⟩, f17_, h18_⟩ := pullD_elim h16_
  replace f17_ := m_118_ok f17_
  obtain ⟨r14, f19_, h20_⟩ := pullD_elim h18_
  replace f19_ := m_117_ok f19_
  obtain rfl := Option.some.inj h20_
  exact con_pc (op := true) (I := [59]) (sp := stays_sp) 3000 (bF 2 []) [iD r0, .tup [(shNF4_1 r1 r2 r3 r4 r5 r6), iD r7], iD r8, iD r9, .agg [iD r10, iD r11], .agg [iD r12, iD r13], iD r14] [c_bn b5_, c_le 1, c_bn b14_] [k_c f1_, k_c f6_, k_c f8_, k_c f10_, k_c f15_, k_c f17_, k_c f19_] (by kernel_rfl)
def m_59 (ds : List D) : Option D := pullD (α := Int × Int × Int × Int × Int × Int × Int × Int × Int × Int × Int × Int × Int) (some (.tup ds)) (fun d => ((D.vi (D.at (D.at d 0) 0)), (D.vi (D.at (D.at d 0) 1)), (D.vi (D.at (D.at d 0) 2)), (D.vi (D.at (D.at d 0) 3)), (D.vi (D.at (D.at d 0) 4)), (D.vi (D.at (D.at d 0) 5)), (D.vi (D.at (D.at d 1) 0)), (D.vi (D.at (D.at d 1) 1)), (D.vi (D.at (D.at d 1) 2)), (D.vi (D.at (D.at d 1) 3)), (D.vi (D.at (D.at d 1) 4)), (D.vi (D.at (D.at d 1) 5)), (D.vi (D.at d 2)))) (fun (pa, pb, pc, pd, pe, pf, a, b, c, d, n, m, u) => .tup [(shNF4_1 pa pb pc pd pe pf), (shNF4_1 a b c d n m), iD u]) fun (pa, pb, pc, pd, pe, pf, a, b, c, d, n, m, u) => stays_M pa pb pc pd pe pf a b c d n m u
theorem m_59_ok {ds : List D} {r : D} (h : m_59 ds = some r) : Con 59 ds r := by
  unfold m_59 at h
  obtain ⟨⟨pa, pb, pc, pd, pe, pf, a, b, c, d, n, m, u⟩, e0, h0⟩ := pullD_elim h
  obtain rfl := tup_inj e0
  exact stays_M_ok pa pb pc pd pe pf a b c d n m u h0
theorem m_59_eq (pa pb pc pd pe pf : Int) (a b c d n m u : Int) : m_59 [(shNF4_1 pa pb pc pd pe pf), (shNF4_1 a b c d n m), iD u] = stays_M pa pb pc pd pe pf a b c d n m u := pullD_some (pa, pb, pc, pd, pe, pf, a, b, c, d, n, m, u) rfl rfl
def buckling_sp : List LSpec := []
def buckling_M_s0 (a b c d : Int)  : Option D := (if c < (2 : Int) then pullD (α := Int) (m_83 [.list 2 [iD (2 : Int), iD (2 : Int)]]) (fun d => ((D.vi d))) (fun r0 => iD r0) fun r0 => ((if r0 ≠ (0 : Int) then some (.tup [.agg [iD (0 : Int), iD (0 : Int)], iD r0]) else pullD (α := Int × Int) (m_119 [iD (IntKind.i64.wrap (IntKind.i64.wrap (a * b) * IntKind.i64.wrap (IntKind.i64.wrap (c * c) - (1 : Int)))), iD (IntKind.i64.wrap (IntKind.i64.wrap (d * d) * d))]) (fun d => ((D.vi (D.at d 0)), (D.vi (D.at d 1)))) (fun (r1, r2) => .agg [iD r1, iD r2]) fun (r1, r2) => (some (.tup [.agg [iD r1, iD r2], iD (0 : Int)])))) else (if c > (20 : Int) then pullD (α := Int) (m_83 [.list 2 [iD (2 : Int), iD (2 : Int)]]) (fun d => ((D.vi d))) (fun r3 => iD r3) fun r3 => ((if r3 ≠ (0 : Int) then some (.tup [.agg [iD (0 : Int), iD (0 : Int)], iD r3]) else pullD (α := Int × Int) (m_119 [iD (IntKind.i64.wrap (IntKind.i64.wrap (a * b) * IntKind.i64.wrap (IntKind.i64.wrap (c * c) - (1 : Int)))), iD (IntKind.i64.wrap (IntKind.i64.wrap (d * d) * d))]) (fun d => ((D.vi (D.at d 0)), (D.vi (D.at d 1)))) (fun (r4, r5) => .agg [iD r4, iD r5]) fun (r4, r5) => (some (.tup [.agg [iD r4, iD r5], iD (0 : Int)])))) else pullD (α := Int) (m_83 [.list 2 [iD (2 : Int), iD (0 : Int)]]) (fun d => ((D.vi d))) (fun r6 => iD r6) fun r6 => ((if r6 ≠ (0 : Int) then some (.tup [.agg [iD (0 : Int), iD (0 : Int)], iD r6]) else pullD (α := Int × Int) (m_119 [iD (IntKind.i64.wrap (IntKind.i64.wrap (a * b) * IntKind.i64.wrap (IntKind.i64.wrap (c * c) - (1 : Int)))), iD (IntKind.i64.wrap (IntKind.i64.wrap (d * d) * d))]) (fun d => ((D.vi (D.at d 0)), (D.vi (D.at d 1)))) (fun (r7, r8) => .agg [iD r7, iD r8]) fun (r7, r8) => (some (.tup [.agg [iD r7, iD r8], iD (0 : Int)]))))))
def buckling_M_s1 (a b c d : Int)  : Option D := (if c < (2 : Int) then pullD (α := Int) (m_83 [.list 2 [iD (2 : Int), iD (2 : Int)]]) (fun d => ((D.vi d))) (fun r9 => iD r9) fun r9 => ((if r9 ≠ (0 : Int) then some (.tup [.agg [iD (0 : Int), iD (0 : Int)], iD r9]) else pullD (α := Int × Int) (m_119 [iD (IntKind.i64.wrap (IntKind.i64.wrap (a * b) * IntKind.i64.wrap (IntKind.i64.wrap (c * c) - (1 : Int)))), iD (IntKind.i64.wrap (IntKind.i64.wrap (d * d) * d))]) (fun d => ((D.vi (D.at d 0)), (D.vi (D.at d 1)))) (fun (r10, r11) => .agg [iD r10, iD r11]) fun (r10, r11) => (some (.tup [.agg [iD r10, iD r11], iD (0 : Int)])))) else (if c > (20 : Int) then pullD (α := Int) (m_83 [.list 2 [iD (2 : Int), iD (2 : Int)]]) (fun d => ((D.vi d))) (fun r12 => iD r12) fun r12 => ((if r12 ≠ (0 : Int) then some (.tup [.agg [iD (0 : Int), iD (0 : Int)], iD r12]) else pullD (α := Int × Int) (m_119 [iD (IntKind.i64.wrap (IntKind.i64.wrap (a * b) * IntKind.i64.wrap (IntKind.i64.wrap (c * c) - (1 : Int)))), iD (IntKind.i64.wrap (IntKind.i64.wrap (d * d) * d))]) (fun d => ((D.vi (D.at d 0)), (D.vi (D.at d 1)))) (fun (r13, r14) => .agg [iD r13, iD r14]) fun (r13, r14) => (some (.tup [.agg [iD r13, iD r14], iD (0 : Int)])))) else pullD (α := Int) (m_83 [.list 2 [iD (2 : Int), iD (0 : Int)]]) (fun d => ((D.vi d))) (fun r15 => iD r15) fun r15 => ((if r15 ≠ (0 : Int) then some (.tup [.agg [iD (0 : Int), iD (0 : Int)], iD r15]) else pullD (α := Int × Int) (m_119 [iD (IntKind.i64.wrap (IntKind.i64.wrap (a * b) * IntKind.i64.wrap (IntKind.i64.wrap (c * c) - (1 : Int)))), iD (IntKind.i64.wrap (IntKind.i64.wrap (d * d) * d))]) (fun d => ((D.vi (D.at d 0)), (D.vi (D.at d 1)))) (fun (r16, r17) => .agg [iD r16, iD r17]) fun (r16, r17) => (some (.tup [.agg [iD r16, iD r17], iD (0 : Int)]))))))
def buckling_M_s2 (a b c d : Int)  : Option D := (if c < (2 : Int) then pullD (α := Int) (m_83 [.list 2 [iD (2 : Int), iD (2 : Int)]]) (fun d => ((D.vi d))) (fun r18 => iD r18) fun r18 => ((if r18 ≠ (0 : Int) then some (.tup [.agg [iD (0 : Int), iD (0 : Int)], iD r18]) else pullD (α := Int × Int) (m_119 [iD (IntKind.i64.wrap (IntKind.i64.wrap (a * b) * IntKind.i64.wrap (IntKind.i64.wrap (c * c) - (1 : Int)))), iD (IntKind.i64.wrap (IntKind.i64.wrap (d * d) * d))]) (fun d => ((D.vi (D.at d 0)), (D.vi (D.at d 1)))) (fun (r19, r20) => .agg [iD r19, iD r20]) fun (r19, r20) => (some (.tup [.agg [iD r19, iD r20], iD (0 : Int)])))) else (if c > (20 : Int) then pullD (α := Int) (m_83 [.list 2 [iD (2 : Int), iD (2 : Int)]]) (fun d => ((D.vi d))) (fun r21 => iD r21) fun r21 => ((if r21 ≠ (0 : Int) then some (.tup [.agg [iD (0 : Int), iD (0 : Int)], iD r21]) else pullD (α := Int × Int) (m_119 [iD (IntKind.i64.wrap (IntKind.i64.wrap (a * b) * IntKind.i64.wrap (IntKind.i64.wrap (c * c) - (1 : Int)))), iD (IntKind.i64.wrap (IntKind.i64.wrap (d * d) * d))]) (fun d => ((D.vi (D.at d 0)), (D.vi (D.at d 1)))) (fun (r22, r23) => .agg [iD r22, iD r23]) fun (r22, r23) => (some (.tup [.agg [iD r22, iD r23], iD (0 : Int)])))) else pullD (α := Int) (m_83 [.list 2 [iD (2 : Int), iD (0 : Int)]]) (fun d => ((D.vi d))) (fun r24 => iD r24) fun r24 => ((if r24 ≠ (0 : Int) then some (.tup [.agg [iD (0 : Int), iD (0 : Int)], iD r24]) else pullD (α := Int × Int) (m_119 [iD (IntKind.i64.wrap (IntKind.i64.wrap (a * b) * IntKind.i64.wrap (IntKind.i64.wrap (c * c) - (1 : Int)))), iD (IntKind.i64.wrap (IntKind.i64.wrap (d * d) * d))]) (fun d => ((D.vi (D.at d 0)), (D.vi (D.at d 1)))) (fun (r25, r26) => .agg [iD r25, iD r26]) fun (r25, r26) => (some (.tup [.agg [iD r25, iD r26], iD (0 : Int)]))))))
def buckling_M_s3 (a b c d : Int)  : Option D := (if b > (1000 : Int) then (if c < (2 : Int) then pullD (α := Int) (m_83 [.list 2 [iD (2 : Int), iD (2 : Int)]]) (fun d => ((D.vi d))) (fun r27 => iD r27) fun r27 => ((if r27 ≠ (0 : Int) then some (.tup [.agg [iD (0 : Int), iD (0 : Int)], iD r27]) else pullD (α := Int × Int) (m_119 [iD (IntKind.i64.wrap (IntKind.i64.wrap (a * b) * IntKind.i64.wrap (IntKind.i64.wrap (c * c) - (1 : Int)))), iD (IntKind.i64.wrap (IntKind.i64.wrap (d * d) * d))]) (fun d => ((D.vi (D.at d 0)), (D.vi (D.at d 1)))) (fun (r28, r29) => .agg [iD r28, iD r29]) fun (r28, r29) => (some (.tup [.agg [iD r28, iD r29], iD (0 : Int)])))) else (if c > (20 : Int) then pullD (α := Int) (m_83 [.list 2 [iD (2 : Int), iD (2 : Int)]]) (fun d => ((D.vi d))) (fun r30 => iD r30) fun r30 => ((if r30 ≠ (0 : Int) then some (.tup [.agg [iD (0 : Int), iD (0 : Int)], iD r30]) else pullD (α := Int × Int) (m_119 [iD (IntKind.i64.wrap (IntKind.i64.wrap (a * b) * IntKind.i64.wrap (IntKind.i64.wrap (c * c) - (1 : Int)))), iD (IntKind.i64.wrap (IntKind.i64.wrap (d * d) * d))]) (fun d => ((D.vi (D.at d 0)), (D.vi (D.at d 1)))) (fun (r31, r32) => .agg [iD r31, iD r32]) fun (r31, r32) => (some (.tup [.agg [iD r31, iD r32], iD (0 : Int)])))) else pullD (α := Int) (m_83 [.list 2 [iD (2 : Int), iD (0 : Int)]]) (fun d => ((D.vi d))) (fun r33 => iD r33) fun r33 => ((if r33 ≠ (0 : Int) then some (.tup [.agg [iD (0 : Int), iD (0 : Int)], iD r33]) else pullD (α := Int × Int) (m_119 [iD (IntKind.i64.wrap (IntKind.i64.wrap (a * b) * IntKind.i64.wrap (IntKind.i64.wrap (c * c) - (1 : Int)))), iD (IntKind.i64.wrap (IntKind.i64.wrap (d * d) * d))]) (fun d => ((D.vi (D.at d 0)), (D.vi (D.at d 1)))) (fun (r34, r35) => .agg [iD r34, iD r35]) fun (r34, r35) => (some (.tup [.agg [iD r34, iD r35], iD (0 : Int)])))))) else (if d < (1 : Int) then (if c < (2 : Int) then pullD (α := Int) (m_83 [.list 2 [iD (2 : Int), iD (2 : Int)]]) (fun d => ((D.vi d))) (fun r36 => iD r36) fun r36 => ((if r36 ≠ (0 : Int) then some (.tup [.agg [iD (0 : Int), iD (0 : Int)], iD r36]) else pullD (α := Int × Int) (m_119 [iD (IntKind.i64.wrap (IntKind.i64.wrap (a * b) * IntKind.i64.wrap (IntKind.i64.wrap (c * c) - (1 : Int)))), iD (IntKind.i64.wrap (IntKind.i64.wrap (d * d) * d))]) (fun d => ((D.vi (D.at d 0)), (D.vi (D.at d 1)))) (fun (r37, r38) => .agg [iD r37, iD r38]) fun (r37, r38) => (some (.tup [.agg [iD r37, iD r38], iD (0 : Int)])))) else (if c > (20 : Int) then pullD (α := Int) (m_83 [.list 2 [iD (2 : Int), iD (2 : Int)]]) (fun d => ((D.vi d))) (fun r39 => iD r39) fun r39 => ((if r39 ≠ (0 : Int) then some (.tup [.agg [iD (0 : Int), iD (0 : Int)], iD r39]) else pullD (α := Int × Int) (m_119 [iD (IntKind.i64.wrap (IntKind.i64.wrap (a * b) * IntKind.i64.wrap (IntKind.i64.wrap (c * c) - (1 : Int)))), iD (IntKind.i64.wrap (IntKind.i64.wrap (d * d) * d))]) (fun d => ((D.vi (D.at d 0)), (D.vi (D.at d 1)))) (fun (r40, r41) => .agg [iD r40, iD r41]) fun (r40, r41) => (some (.tup [.agg [iD r40, iD r41], iD (0 : Int)])))) else pullD (α := Int) (m_83 [.list 2 [iD (2 : Int), iD (0 : Int)]]) (fun d => ((D.vi d))) (fun r42 => iD r42) fun r42 => ((if r42 ≠ (0 : Int) then some (.tup [.agg [iD (0 : Int), iD (0 : Int)], iD r42]) else pullD (α := Int × Int) (m_119 [iD (IntKind.i64.wrap (IntKind.i64.wrap (a * b) * IntKind.i64.wrap (IntKind.i64.wrap (c * c) - (1 : Int)))), iD (IntKind.i64.wrap (IntKind.i64.wrap (d * d) * d))]) (fun d => ((D.vi (D.at d 0)), (D.vi (D.at d 1)))) (fun (r43, r44) => .agg [iD r43, iD r44]) fun (r43, r44) => (some (.tup [.agg [iD r43, iD r44], iD (0 : Int)])))))) else (if d > (1000 : Int) then (if c < (2 : Int) then pullD (α := Int) (m_83 [.list 2 [iD (2 : Int), iD (2 : Int)]]) (fun d => ((D.vi d))) (fun r45 => iD r45) fun r45 => ((if r45 ≠ (0 : Int) then some (.tup [.agg [iD (0 : Int), iD (0 : Int)], iD r45]) else pullD (α := Int × Int) (m_119 [iD (IntKind.i64.wrap (IntKind.i64.wrap (a * b) * IntKind.i64.wrap (IntKind.i64.wrap (c * c) - (1 : Int)))), iD (IntKind.i64.wrap (IntKind.i64.wrap (d * d) * d))]) (fun d => ((D.vi (D.at d 0)), (D.vi (D.at d 1)))) (fun (r46, r47) => .agg [iD r46, iD r47]) fun (r46, r47) => (some (.tup [.agg [iD r46, iD r47], iD (0 : Int)])))) else (if c > (20 : Int) then pullD (α := Int) (m_83 [.list 2 [iD (2 : Int), iD (2 : Int)]]) (fun d => ((D.vi d))) (fun r48 => iD r48) fun r48 => ((if r48 ≠ (0 : Int) then some (.tup [.agg [iD (0 : Int), iD (0 : Int)], iD r48]) else pullD (α := Int × Int) (m_119 [iD (IntKind.i64.wrap (IntKind.i64.wrap (a * b) * IntKind.i64.wrap (IntKind.i64.wrap (c * c) - (1 : Int)))), iD (IntKind.i64.wrap (IntKind.i64.wrap (d * d) * d))]) (fun d => ((D.vi (D.at d 0)), (D.vi (D.at d 1)))) (fun (r49, r50) => .agg [iD r49, iD r50]) fun (r49, r50) => (some (.tup [.agg [iD r49, iD r50], iD (0 : Int)])))) else pullD (α := Int) (m_83 [.list 2 [iD (2 : Int), iD (0 : Int)]]) (fun d => ((D.vi d))) (fun r51 => iD r51) fun r51 => ((if r51 ≠ (0 : Int) then some (.tup [.agg [iD (0 : Int), iD (0 : Int)], iD r51]) else pullD (α := Int × Int) (m_119 [iD (IntKind.i64.wrap (IntKind.i64.wrap (a * b) * IntKind.i64.wrap (IntKind.i64.wrap (c * c) - (1 : Int)))), iD (IntKind.i64.wrap (IntKind.i64.wrap (d * d) * d))]) (fun d => ((D.vi (D.at d 0)), (D.vi (D.at d 1)))) (fun (r52, r53) => .agg [iD r52, iD r53]) fun (r52, r53) => (some (.tup [.agg [iD r52, iD r53], iD (0 : Int)])))))) else (if c < (2 : Int) then pullD (α := Int) (m_83 [.list 2 [iD (0 : Int), iD (2 : Int)]]) (fun d => ((D.vi d))) (fun r54 => iD r54) fun r54 => ((if r54 ≠ (0 : Int) then some (.tup [.agg [iD (0 : Int), iD (0 : Int)], iD r54]) else pullD (α := Int × Int) (m_119 [iD (IntKind.i64.wrap (IntKind.i64.wrap (a * b) * IntKind.i64.wrap (IntKind.i64.wrap (c * c) - (1 : Int)))), iD (IntKind.i64.wrap (IntKind.i64.wrap (d * d) * d))]) (fun d => ((D.vi (D.at d 0)), (D.vi (D.at d 1)))) (fun (r55, r56) => .agg [iD r55, iD r56]) fun (r55, r56) => (some (.tup [.agg [iD r55, iD r56], iD (0 : Int)])))) else (if c > (20 : Int) then pullD (α := Int) (m_83 [.list 2 [iD (0 : Int), iD (2 : Int)]]) (fun d => ((D.vi d))) (fun r57 => iD r57) fun r57 => ((if r57 ≠ (0 : Int) then some (.tup [.agg [iD (0 : Int), iD (0 : Int)], iD r57]) else pullD (α := Int × Int) (m_119 [iD (IntKind.i64.wrap (IntKind.i64.wrap (a * b) * IntKind.i64.wrap (IntKind.i64.wrap (c * c) - (1 : Int)))), iD (IntKind.i64.wrap (IntKind.i64.wrap (d * d) * d))]) (fun d => ((D.vi (D.at d 0)), (D.vi (D.at d 1)))) (fun (r58, r59) => .agg [iD r58, iD r59]) fun (r58, r59) => (some (.tup [.agg [iD r58, iD r59], iD (0 : Int)])))) else pullD (α := Int) (m_83 [.list 2 [iD (0 : Int), iD (0 : Int)]]) (fun d => ((D.vi d))) (fun r60 => iD r60) fun r60 => ((if r60 ≠ (0 : Int) then some (.tup [.agg [iD (0 : Int), iD (0 : Int)], iD r60]) else pullD (α := Int × Int) (m_119 [iD (IntKind.i64.wrap (IntKind.i64.wrap (a * b) * IntKind.i64.wrap (IntKind.i64.wrap (c * c) - (1 : Int)))), iD (IntKind.i64.wrap (IntKind.i64.wrap (d * d) * d))]) (fun d => ((D.vi (D.at d 0)), (D.vi (D.at d 1)))) (fun (r61, r62) => .agg [iD r61, iD r62]) fun (r61, r62) => (some (.tup [.agg [iD r61, iD r62], iD (0 : Int)])))))))))
def buckling_M (a b c d : Int) : Option D := (if a < (1 : Int) then buckling_M_s0 a b c d else (if a > (1000 : Int) then buckling_M_s1 a b c d else (if b < (1 : Int) then buckling_M_s2 a b c d else buckling_M_s3 a b c d)))
theorem buckling_M_s0_ok (a b c d : Int)  (b1_ : a < (1 : Int)) {r : D} (h : buckling_M_s0 a b c d = some r) : Con 60 [(shNF4_0 a b c d)] r := by
  unfold buckling_M_s0 at h
  by_cases bq1_ : c < (2 : Int)
  · have hq2_ := (if_pos bq1_).symm.trans h
    obtain ⟨r0, fq3_, hq4_⟩ := pullD_elim hq2_
    replace fq3_ := m_83_ok fq3_
    by_cases bq5_ : r0 ≠ (0 : Int)
    · have hq6_ := (if_pos bq5_).symm.trans hq4_
      obtain rfl := Option.some.inj hq6_
      exact con_pc (op := true) (I := [60, 95, 132]) (sp := buckling_sp) 3000 (bT 13 []) [iD r0] [c_T, c_d b1_, c_d b1_, c_d b1_, c_d b1_, c_T, c_T, c_d bq1_, c_d bq1_, c_d bq1_, c_d bq1_, c_T, c_le 1, c_b bq5_] [k_c fq3_] (by kernel_rfl)
    have hq6_ := (if_neg bq5_).symm.trans hq4_
    have bq7_ : r0 = (0 : Int) := by first | exact bq5_ | simpa using bq5_
    obtain ⟨⟨r1, r2⟩, fq8_, hq9_⟩ := pullD_elim hq6_
    replace fq8_ := m_119_ok fq8_
    obtain rfl := Option.some.inj hq9_
    exact con_pc (op := true) (I := [60, 95, 132]) (sp := buckling_sp) 3000 (bT 12 (bF 1 [])) [iD r0, .agg [iD r1, iD r2]] [c_T, c_d b1_, c_d b1_, c_d b1_, c_d b1_, c_T, c_T, c_d bq1_, c_d bq1_, c_d bq1_, c_d bq1_, c_T, c_le 1, c_bn bq7_] [k_c fq3_, k_c fq8_] (by kernel_rfl)
  have hq2_ := (if_neg bq1_).symm.trans h
  by_cases bq10_ : c > (20 : Int)
  · have hq11_ := (if_pos bq10_).symm.trans hq2_
    obtain ⟨r3, fq12_, hq13_⟩ := pullD_elim hq11_
    replace fq12_ := m_83_ok fq12_
    by_cases bq14_ : r3 ≠ (0 : Int)
    · have hq15_ := (if_pos bq14_).symm.trans hq13_
      obtain rfl := Option.some.inj hq15_
      exact con_pc (op := true) (I := [60, 95, 132]) (sp := buckling_sp) 3000 (bT 7 (bF 4 (bT 2 []))) [iD r3] [c_T, c_d b1_, c_d b1_, c_d b1_, c_d b1_, c_T, c_T, c_n bq1_, c_n bq1_, c_n bq1_, c_n bq1_, c_d bq10_, c_le 1, c_b bq14_] [k_c fq12_] (by kernel_rfl)
    have hq15_ := (if_neg bq14_).symm.trans hq13_
    have bq16_ : r3 = (0 : Int) := by first | exact bq14_ | simpa using bq14_
    obtain ⟨⟨r4, r5⟩, fq17_, hq18_⟩ := pullD_elim hq15_
    replace fq17_ := m_119_ok fq17_
    obtain rfl := Option.some.inj hq18_
    exact con_pc (op := true) (I := [60, 95, 132]) (sp := buckling_sp) 3000 (bT 7 (bF 4 (bT 1 (bF 1 [])))) [iD r3, .agg [iD r4, iD r5]] [c_T, c_d b1_, c_d b1_, c_d b1_, c_d b1_, c_T, c_T, c_n bq1_, c_n bq1_, c_n bq1_, c_n bq1_, c_d bq10_, c_le 1, c_bn bq16_] [k_c fq12_, k_c fq17_] (by kernel_rfl)
  have hq11_ := (if_neg bq10_).symm.trans hq2_
  obtain ⟨r6, fq19_, hq20_⟩ := pullD_elim hq11_
  replace fq19_ := m_83_ok fq19_
  by_cases bq21_ : r6 ≠ (0 : Int)
  · have hq22_ := (if_pos bq21_).symm.trans hq20_
    obtain rfl := Option.some.inj hq22_
    exact con_pc (op := true) (I := [60, 95, 132]) (sp := buckling_sp) 3000 (bT 7 (bF 6 (bT 1 []))) [iD r6] [c_T, c_d b1_, c_d b1_, c_d b1_, c_d b1_, c_T, c_T, c_n bq1_, c_n bq1_, c_n bq1_, c_n bq1_, c_n bq10_, c_F, c_le 1, c_b bq21_] [k_c fq19_] (by kernel_rfl)
  have hq22_ := (if_neg bq21_).symm.trans hq20_
  have bq23_ : r6 = (0 : Int) := by first | exact bq21_ | simpa using bq21_
  obtain ⟨⟨r7, r8⟩, fq24_, hq25_⟩ := pullD_elim hq22_
  replace fq24_ := m_119_ok fq24_
  obtain rfl := Option.some.inj hq25_
  exact con_pc (op := true) (I := [60, 95, 132]) (sp := buckling_sp) 3000 (bT 7 (bF 7 [])) [iD r6, .agg [iD r7, iD r8]] [c_T, c_d b1_, c_d b1_, c_d b1_, c_d b1_, c_T, c_T, c_n bq1_, c_n bq1_, c_n bq1_, c_n bq1_, c_n bq10_, c_F, c_le 1, c_bn bq23_] [k_c fq19_, k_c fq24_] (by kernel_rfl)
theorem buckling_M_s1_ok (a b c d : Int)  (b1_ : ¬ (a < (1 : Int))) (b3_ : a > (1000 : Int)) {r : D} (h : buckling_M_s1 a b c d = some r) : Con 60 [(shNF4_0 a b c d)] r := by
  unfold buckling_M_s1 at h
  by_cases bq1_ : c < (2 : Int)
  · have hq2_ := (if_pos bq1_).symm.trans h
    obtain ⟨r9, fq3_, hq4_⟩ := pullD_elim hq2_
    replace fq3_ := m_83_ok fq3_
    by_cases bq5_ : r9 ≠ (0 : Int)
    · have hq6_ := (if_pos bq5_).symm.trans hq4_
      obtain rfl := Option.some.inj hq6_
      exact con_pc (op := true) (I := [60, 95, 132]) (sp := buckling_sp) 3000 (bT 1 (bF 4 (bT 8 []))) [iD r9] [c_T, c_n b1_, c_n b1_, c_n b1_, c_n b1_, c_d b3_, c_T, c_d bq1_, c_d bq1_, c_d bq1_, c_d bq1_, c_T, c_le 1, c_b bq5_] [k_c fq3_] (by kernel_rfl)
    have hq6_ := (if_neg bq5_).symm.trans hq4_
    have bq7_ : r9 = (0 : Int) := by first | exact bq5_ | simpa using bq5_
    obtain ⟨⟨r10, r11⟩, fq8_, hq9_⟩ := pullD_elim hq6_
    replace fq8_ := m_119_ok fq8_
    obtain rfl := Option.some.inj hq9_
    exact con_pc (op := true) (I := [60, 95, 132]) (sp := buckling_sp) 3000 (bT 1 (bF 4 (bT 7 (bF 1 [])))) [iD r9, .agg [iD r10, iD r11]] [c_T, c_n b1_, c_n b1_, c_n b1_, c_n b1_, c_d b3_, c_T, c_d bq1_, c_d bq1_, c_d bq1_, c_d bq1_, c_T, c_le 1, c_bn bq7_] [k_c fq3_, k_c fq8_] (by kernel_rfl)
  have hq2_ := (if_neg bq1_).symm.trans h
  by_cases bq10_ : c > (20 : Int)
  · have hq11_ := (if_pos bq10_).symm.trans hq2_
    obtain ⟨r12, fq12_, hq13_⟩ := pullD_elim hq11_
    replace fq12_ := m_83_ok fq12_
    by_cases bq14_ : r12 ≠ (0 : Int)
    · have hq15_ := (if_pos bq14_).symm.trans hq13_
      obtain rfl := Option.some.inj hq15_
      exact con_pc (op := true) (I := [60, 95, 132]) (sp := buckling_sp) 3000 (bT 1 (bF 4 (bT 2 (bF 4 (bT 2 []))))) [iD r12] [c_T, c_n b1_, c_n b1_, c_n b1_, c_n b1_, c_d b3_, c_T, c_n bq1_, c_n bq1_, c_n bq1_, c_n bq1_, c_d bq10_, c_le 1, c_b bq14_] [k_c fq12_] (by kernel_rfl)
    have hq15_ := (if_neg bq14_).symm.trans hq13_
    have bq16_ : r12 = (0 : Int) := by first | exact bq14_ | simpa using bq14_
    obtain ⟨⟨r13, r14⟩, fq17_, hq18_⟩ := pullD_elim hq15_
    replace fq17_ := m_119_ok fq17_
    obtain rfl := Option.some.inj hq18_
    exact con_pc (op := true) (I := [60, 95, 132]) (sp := buckling_sp) 3000 (bT 1 (bF 4 (bT 2 (bF 4 (bT 1 (bF 1 [])))))) [iD r12, .agg [iD r13, iD r14]] [c_T, c_n b1_, c_n b1_, c_n b1_, c_n b1_, c_d b3_, c_T, c_n bq1_, c_n bq1_, c_n bq1_, c_n bq1_, c_d bq10_, c_le 1, c_bn bq16_] [k_c fq12_, k_c fq17_] (by kernel_rfl)
  have hq11_ := (if_neg bq10_).symm.trans hq2_
  obtain ⟨r15, fq19_, hq20_⟩ := pullD_elim hq11_
  replace fq19_ := m_83_ok fq19_
  by_cases bq21_ : r15 ≠ (0 : Int)
  · have hq22_ := (if_pos bq21_).symm.trans hq20_
    obtain rfl := Option.some.inj hq22_
    exact con_pc (op := true) (I := [60, 95, 132]) (sp := buckling_sp) 3000 (bT 1 (bF 4 (bT 2 (bF 6 (bT 1 []))))) [iD r15] [c_T, c_n b1_, c_n b1_, c_n b1_, c_n b1_, c_d b3_, c_T, c_n bq1_, c_n bq1_, c_n bq1_, c_n bq1_, c_n bq10_, c_F, c_le 1, c_b bq21_] [k_c fq19_] (by kernel_rfl)
  have hq22_ := (if_neg bq21_).symm.trans hq20_
  have bq23_ : r15 = (0 : Int) := by first | exact bq21_ | simpa using bq21_
  obtain ⟨⟨r16, r17⟩, fq24_, hq25_⟩ := pullD_elim hq22_
  replace fq24_ := m_119_ok fq24_
  obtain rfl := Option.some.inj hq25_
  exact con_pc (op := true) (I := [60, 95, 132]) (sp := buckling_sp) 3000 (bT 1 (bF 4 (bT 2 (bF 7 [])))) [iD r15, .agg [iD r16, iD r17]] [c_T, c_n b1_, c_n b1_, c_n b1_, c_n b1_, c_d b3_, c_T, c_n bq1_, c_n bq1_, c_n bq1_, c_n bq1_, c_n bq10_, c_F, c_le 1, c_bn bq23_] [k_c fq19_, k_c fq24_] (by kernel_rfl)
theorem buckling_M_s2_ok (a b c d : Int)  (b1_ : ¬ (a < (1 : Int))) (b3_ : ¬ (a > (1000 : Int))) (b5_ : b < (1 : Int)) {r : D} (h : buckling_M_s2 a b c d = some r) : Con 60 [(shNF4_0 a b c d)] r := by
  unfold buckling_M_s2 at h
  by_cases bq1_ : c < (2 : Int)
  · have hq2_ := (if_pos bq1_).symm.trans h
    obtain ⟨r18, fq3_, hq4_⟩ := pullD_elim hq2_
    replace fq3_ := m_83_ok fq3_
    by_cases bq5_ : r18 ≠ (0 : Int)
    · have hq6_ := (if_pos bq5_).symm.trans hq4_
      obtain rfl := Option.some.inj hq6_
      exact con_pc (op := true) (I := [60, 95, 132]) (sp := buckling_sp) 3000 (bT 1 (bF 5 (bT 13 []))) [iD r18] [c_T, c_n b1_, c_n b1_, c_n b1_, c_n b1_, c_n b3_, c_T, c_d b5_, c_d b5_, c_d b5_, c_d b5_, c_T, c_T, c_d bq1_, c_d bq1_, c_d bq1_, c_d bq1_, c_T, c_le 1, c_b bq5_] [k_c fq3_] (by kernel_rfl)
    have hq6_ := (if_neg bq5_).symm.trans hq4_
    have bq7_ : r18 = (0 : Int) := by first | exact bq5_ | simpa using bq5_
    obtain ⟨⟨r19, r20⟩, fq8_, hq9_⟩ := pullD_elim hq6_
    replace fq8_ := m_119_ok fq8_
    obtain rfl := Option.some.inj hq9_
    exact con_pc (op := true) (I := [60, 95, 132]) (sp := buckling_sp) 3000 (bT 1 (bF 5 (bT 12 (bF 1 [])))) [iD r18, .agg [iD r19, iD r20]] [c_T, c_n b1_, c_n b1_, c_n b1_, c_n b1_, c_n b3_, c_T, c_d b5_, c_d b5_, c_d b5_, c_d b5_, c_T, c_T, c_d bq1_, c_d bq1_, c_d bq1_, c_d bq1_, c_T, c_le 1, c_bn bq7_] [k_c fq3_, k_c fq8_] (by kernel_rfl)
  have hq2_ := (if_neg bq1_).symm.trans h
  by_cases bq10_ : c > (20 : Int)
  · have hq11_ := (if_pos bq10_).symm.trans hq2_
    obtain ⟨r21, fq12_, hq13_⟩ := pullD_elim hq11_
    replace fq12_ := m_83_ok fq12_
    by_cases bq14_ : r21 ≠ (0 : Int)
    · have hq15_ := (if_pos bq14_).symm.trans hq13_
      obtain rfl := Option.some.inj hq15_
      exact con_pc (op := true) (I := [60, 95, 132]) (sp := buckling_sp) 3000 (bT 1 (bF 5 (bT 7 (bF 4 (bT 2 []))))) [iD r21] [c_T, c_n b1_, c_n b1_, c_n b1_, c_n b1_, c_n b3_, c_T, c_d b5_, c_d b5_, c_d b5_, c_d b5_, c_T, c_T, c_n bq1_, c_n bq1_, c_n bq1_, c_n bq1_, c_d bq10_, c_le 1, c_b bq14_] [k_c fq12_] (by kernel_rfl)
    have hq15_ := (if_neg bq14_).symm.trans hq13_
    have bq16_ : r21 = (0 : Int) := by first | exact bq14_ | simpa using bq14_
    obtain ⟨⟨r22, r23⟩, fq17_, hq18_⟩ := pullD_elim hq15_
    replace fq17_ := m_119_ok fq17_
    obtain rfl := Option.some.inj hq18_
    exact con_pc (op := true) (I := [60, 95, 132]) (sp := buckling_sp) 3000 (bT 1 (bF 5 (bT 7 (bF 4 (bT 1 (bF 1 [])))))) [iD r21, .agg [iD r22, iD r23]] [c_T, c_n b1_, c_n b1_, c_n b1_, c_n b1_, c_n b3_, c_T, c_d b5_, c_d b5_, c_d b5_, c_d b5_, c_T, c_T, c_n bq1_, c_n bq1_, c_n bq1_, c_n bq1_, c_d bq10_, c_le 1, c_bn bq16_] [k_c fq12_, k_c fq17_] (by kernel_rfl)
  have hq11_ := (if_neg bq10_).symm.trans hq2_
  obtain ⟨r24, fq19_, hq20_⟩ := pullD_elim hq11_
  replace fq19_ := m_83_ok fq19_
  by_cases bq21_ : r24 ≠ (0 : Int)
  · have hq22_ := (if_pos bq21_).symm.trans hq20_
    obtain rfl := Option.some.inj hq22_
    exact con_pc (op := true) (I := [60, 95, 132]) (sp := buckling_sp) 3000 (bT 1 (bF 5 (bT 7 (bF 6 (bT 1 []))))) [iD r24] [c_T, c_n b1_, c_n b1_, c_n b1_, c_n b1_, c_n b3_, c_T, c_d b5_, c_d b5_, c_d b5_, c_d b5_, c_T, c_T, c_n bq1_, c_n bq1_, c_n bq1_, c_n bq1_, c_n bq10_, c_F, c_le 1, c_b bq21_] [k_c fq19_] (by kernel_rfl)
  have hq22_ := (if_neg bq21_).symm.trans hq20_
  have bq23_ : r24 = (0 : Int) := by first | exact bq21_ | simpa using bq21_
  obtain ⟨⟨r25, r26⟩, fq24_, hq25_⟩ := pullD_elim hq22_
  replace fq24_ := m_119_ok fq24_
  obtain rfl := Option.some.inj hq25_
  exact con_pc (op := true) (I := [60, 95, 132]) (sp := buckling_sp) 3000 (bT 1 (bF 5 (bT 7 (bF 7 [])))) [iD r24, .agg [iD r25, iD r26]] [c_T, c_n b1_, c_n b1_, c_n b1_, c_n b1_, c_n b3_, c_T, c_d b5_, c_d b5_, c_d b5_, c_d b5_, c_T, c_T, c_n bq1_, c_n bq1_, c_n bq1_, c_n bq1_, c_n bq10_, c_F, c_le 1, c_bn bq23_] [k_c fq19_, k_c fq24_] (by kernel_rfl)
theorem buckling_M_s3_ok (a b c d : Int)  (b1_ : ¬ (a < (1 : Int))) (b3_ : ¬ (a > (1000 : Int))) (b5_ : ¬ (b < (1 : Int))) {r : D} (h : buckling_M_s3 a b c d = some r) : Con 60 [(shNF4_0 a b c d)] r := by
  unfold buckling_M_s3 at h
  by_cases bq1_ : b > (1000 : Int)
  · have hq2_ := (if_pos bq1_).symm.trans h
    by_cases bq3_ : c < (2 : Int)
    · have hq4_ := (if_pos bq3_).symm.trans hq2_
      obtain ⟨r27, fq5_, hq6_⟩ := pullD_elim hq4_
      replace fq5_ := m_83_ok fq5_
      by_cases bq7_ : r27 ≠ (0 : Int)
      · have hq8_ := (if_pos bq7_).symm.trans hq6_
        obtain rfl := Option.some.inj hq8_
        exact con_pc (op := true) (I := [60, 95, 132]) (sp := buckling_sp) 3000 (bT 1 (bF 5 (bT 1 (bF 4 (bT 8 []))))) [iD r27] [c_T, c_n b1_, c_n b1_, c_n b1_, c_n b1_, c_n b3_, c_T, c_n b5_, c_n b5_, c_n b5_, c_n b5_, c_d bq1_, c_T, c_d bq3_, c_d bq3_, c_d bq3_, c_d bq3_, c_T, c_le 1, c_b bq7_] [k_c fq5_] (by kernel_rfl)
      have hq8_ := (if_neg bq7_).symm.trans hq6_
      have bq9_ : r27 = (0 : Int) := by first | exact bq7_ | simpa using bq7_
      obtain ⟨⟨r28, r29⟩, fq10_, hq11_⟩ := pullD_elim hq8_
      replace fq10_ := m_119_ok fq10_
      obtain rfl := Option.some.inj hq11_
      exact con_pc (op := true) (I := [60, 95, 132]) (sp := buckling_sp) 3000 (bT 1 (bF 5 (bT 1 (bF 4 (bT 7 (bF 1 [])))))) [iD r27, .agg [iD r28, iD r29]] [c_T, c_n b1_, c_n b1_, c_n b1_, c_n b1_, c_n b3_, c_T, c_n b5_, c_n b5_, c_n b5_, c_n b5_, c_d bq1_, c_T, c_d bq3_, c_d bq3_, c_d bq3_, c_d bq3_, c_T, c_le 1, c_bn bq9_] [k_c fq5_, k_c fq10_] (by kernel_rfl)
    have hq4_ := (if_neg bq3_).symm.trans hq2_
    by_cases bq12_ : c > (20 : Int)
    · have hq13_ := (if_pos bq12_).symm.trans hq4_
      obtain ⟨r30, fq14_, hq15_⟩ := pullD_elim hq13_
      replace fq14_ := m_83_ok fq14_
      by_cases bq16_ : r30 ≠ (0 : Int)
      · have hq17_ := (if_pos bq16_).symm.trans hq15_
        obtain rfl := Option.some.inj hq17_
        exact con_pc (op := true) (I := [60, 95, 132]) (sp := buckling_sp) 3000 (bT 1 (bF 5 (bT 1 (bF 4 (bT 2 (bF 4 (bT 2 []))))))) [iD r30] [c_T, c_n b1_, c_n b1_, c_n b1_, c_n b1_, c_n b3_, c_T, c_n b5_, c_n b5_, c_n b5_, c_n b5_, c_d bq1_, c_T, c_n bq3_, c_n bq3_, c_n bq3_, c_n bq3_, c_d bq12_, c_le 1, c_b bq16_] [k_c fq14_] (by kernel_rfl)
      have hq17_ := (if_neg bq16_).symm.trans hq15_
      have bq18_ : r30 = (0 : Int) := by first | exact bq16_ | simpa using bq16_
      obtain ⟨⟨r31, r32⟩, fq19_, hq20_⟩ := pullD_elim hq17_
      replace fq19_ := m_119_ok fq19_
      obtain rfl := Option.some.inj hq20_
      exact con_pc (op := true) (I := [60, 95, 132]) (sp := buckling_sp) 3000 (bT 1 (bF 5 (bT 1 (bF 4 (bT 2 (bF 4 (bT 1 (bF 1 [])))))))) [iD r30, .agg [iD r31, iD r32]] [c_T, c_n b1_, c_n b1_, c_n b1_, c_n b1_, c_n b3_, c_T, c_n b5_, c_n b5_, c_n b5_, c_n b5_, c_d bq1_, c_T, c_n bq3_, c_n bq3_, c_n bq3_, c_n bq3_, c_d bq12_, c_le 1, c_bn bq18_] [k_c fq14_, k_c fq19_] (by kernel_rfl)
    have hq13_ := (if_neg bq12_).symm.trans hq4_
    obtain ⟨r33, fq21_, hq22_⟩ := pullD_elim hq13_
    replace fq21_ := m_83_ok fq21_
    by_cases bq23_ : r33 ≠ (0 : Int)
    · have hq24_ := (if_pos bq23_).symm.trans hq22_
      obtain rfl := Option.some.inj hq24_
      exact con_pc (op := true) (I := [60, 95, 132]) (sp := buckling_sp) 3000 (bT 1 (bF 5 (bT 1 (bF 4 (bT 2 (bF 6 (bT 1 []))))))) [iD r33] [c_T, c_n b1_, c_n b1_, c_n b1_, c_n b1_, c_n b3_, c_T, c_n b5_, c_n b5_, c_n b5_, c_n b5_, c_d bq1_, c_T, c_n bq3_, c_n bq3_, c_n bq3_, c_n bq3_, c_n bq12_, c_F, c_le 1, c_b bq23_] [k_c fq21_] (by kernel_rfl)
    have hq24_ := (if_neg bq23_).symm.trans hq22_
    have bq25_ : r33 = (0 : Int) := by first | exact bq23_ | simpa using bq23_
    obtain ⟨⟨r34, r35⟩, fq26_, hq27_⟩ := pullD_elim hq24_
    replace fq26_ := m_119_ok fq26_
    obtain rfl := Option.some.inj hq27_
    exact con_pc (op := true) (I := [60, 95, 132]) (sp := buckling_sp) 3000 (bT 1 (bF 5 (bT 1 (bF 4 (bT 2 (bF 7 [])))))) [iD r33, .agg [iD r34, iD r35]] [c_T, c_n b1_, c_n b1_, c_n b1_, c_n b1_, c_n b3_, c_T, c_n b5_, c_n b5_, c_n b5_, c_n b5_, c_d bq1_, c_T, c_n bq3_, c_n bq3_, c_n bq3_, c_n bq3_, c_n bq12_, c_F, c_le 1, c_bn bq25_] [k_c fq21_, k_c fq26_] (by kernel_rfl)
  have hq2_ := (if_neg bq1_).symm.trans h
  by_cases bq28_ : d < (1 : Int)
  · have hq29_ := (if_pos bq28_).symm.trans hq2_
    by_cases bq30_ : c < (2 : Int)
    · have hq31_ := (if_pos bq30_).symm.trans hq29_
      obtain ⟨r36, fq32_, hq33_⟩ := pullD_elim hq31_
      replace fq32_ := m_83_ok fq32_
      by_cases bq34_ : r36 ≠ (0 : Int)
      · have hq35_ := (if_pos bq34_).symm.trans hq33_
        obtain rfl := Option.some.inj hq35_
        exact con_pc (op := true) (I := [60, 95, 132]) (sp := buckling_sp) 3000 (bT 1 (bF 5 (bT 1 (bF 5 (bT 13 []))))) [iD r36] [c_T, c_n b1_, c_n b1_, c_n b1_, c_n b1_, c_n b3_, c_T, c_n b5_, c_n b5_, c_n b5_, c_n b5_, c_n bq1_, c_T, c_d bq28_, c_d bq28_, c_d bq28_, c_d bq28_, c_T, c_T, c_d bq30_, c_d bq30_, c_d bq30_, c_d bq30_, c_T, c_le 1, c_b bq34_] [k_c fq32_] (by kernel_rfl)
      have hq35_ := (if_neg bq34_).symm.trans hq33_
      have bq36_ : r36 = (0 : Int) := by first | exact bq34_ | simpa using bq34_
      obtain ⟨⟨r37, r38⟩, fq37_, hq38_⟩ := pullD_elim hq35_
      replace fq37_ := m_119_ok fq37_
      obtain rfl := Option.some.inj hq38_
      exact con_pc (op := true) (I := [60, 95, 132]) (sp := buckling_sp) 3000 (bT 1 (bF 5 (bT 1 (bF 5 (bT 12 (bF 1 [])))))) [iD r36, .agg [iD r37, iD r38]] [c_T, c_n b1_, c_n b1_, c_n b1_, c_n b1_, c_n b3_, c_T, c_n b5_, c_n b5_, c_n b5_, c_n b5_, c_n bq1_, c_T, c_d bq28_, c_d bq28_, c_d bq28_, c_d bq28_, c_T, c_T, c_d bq30_, c_d bq30_, c_d bq30_, c_d bq30_, c_T, c_le 1, c_bn bq36_] [k_c fq32_, k_c fq37_] (by kernel_rfl)
    have hq31_ := (if_neg bq30_).symm.trans hq29_
    by_cases bq39_ : c > (20 : Int)
    · have hq40_ := (if_pos bq39_).symm.trans hq31_
      obtain ⟨r39, fq41_, hq42_⟩ := pullD_elim hq40_
      replace fq41_ := m_83_ok fq41_
      by_cases bq43_ : r39 ≠ (0 : Int)
      · have hq44_ := (if_pos bq43_).symm.trans hq42_
        obtain rfl := Option.some.inj hq44_
        exact con_pc (op := true) (I := [60, 95, 132]) (sp := buckling_sp) 3000 (bT 1 (bF 5 (bT 1 (bF 5 (bT 7 (bF 4 (bT 2 []))))))) [iD r39] [c_T, c_n b1_, c_n b1_, c_n b1_, c_n b1_, c_n b3_, c_T, c_n b5_, c_n b5_, c_n b5_, c_n b5_, c_n bq1_, c_T, c_d bq28_, c_d bq28_, c_d bq28_, c_d bq28_, c_T, c_T, c_n bq30_, c_n bq30_, c_n bq30_, c_n bq30_, c_d bq39_, c_le 1, c_b bq43_] [k_c fq41_] (by kernel_rfl)
      have hq44_ := (if_neg bq43_).symm.trans hq42_
      have bq45_ : r39 = (0 : Int) := by first | exact bq43_ | simpa using bq43_
      obtain ⟨⟨r40, r41⟩, fq46_, hq47_⟩ := pullD_elim hq44_
      replace fq46_ := m_119_ok fq46_
      obtain rfl := Option.some.inj hq47_
      exact con_pc (op := true) (I := [60, 95, 132]) (sp := buckling_sp) 3000 (bT 1 (bF 5 (bT 1 (bF 5 (bT 7 (bF 4 (bT 1 (bF 1 [])))))))) [iD r39, .agg [iD r40, iD r41]] [c_T, c_n b1_, c_n b1_, c_n b1_, c_n b1_, c_n b3_, c_T, c_n b5_, c_n b5_, c_n b5_, c_n b5_, c_n bq1_, c_T, c_d bq28_, c_d bq28_, c_d bq28_, c_d bq28_, c_T, c_T, c_n bq30_, c_n bq30_, c_n bq30_, c_n bq30_, c_d bq39_, c_le 1, c_bn bq45_] [k_c fq41_, k_c fq46_] (by kernel_rfl)
    have hq40_ := (if_neg bq39_).symm.trans hq31_
    obtain ⟨r42, fq48_, hq49_⟩ := pullD_elim hq40_
    replace fq48_ := m_83_ok fq48_
    by_cases bq50_ : r42 ≠ (0 : Int)
    · have hq51_ := (if_pos bq50_).symm.trans hq49_
      obtain rfl := Option.some.inj hq51_
      exact con_pc (op := true) (I := [60, 95, 132]) (sp := buckling_sp) 3000 (bT 1 (bF 5 (bT 1 (bF 5 (bT 7 (bF 6 (bT 1 []))))))) [iD r42] [c_T, c_n b1_, c_n b1_, c_n b1_, c_n b1_, c_n b3_, c_T, c_n b5_, c_n b5_, c_n b5_, c_n b5_, c_n bq1_, c_T, c_d bq28_, c_d bq28_, c_d bq28_, c_d bq28_, c_T, c_T, c_n bq30_, c_n bq30_, c_n bq30_, c_n bq30_, c_n bq39_, c_F, c_le 1, c_b bq50_] [k_c fq48_] (by kernel_rfl)
    have hq51_ := (if_neg bq50_).symm.trans hq49_
    have bq52_ : r42 = (0 : Int) := by first | exact bq50_ | simpa using bq50_
    obtain ⟨⟨r43, r44⟩, fq53_, hq54_⟩ := pullD_elim hq51_
    replace fq53_ := m_119_ok fq53_
    obtain rfl := Option.some.inj hq54_
    exact con_pc (op := true) (I := [60, 95, 132]) (sp := buckling_sp) 3000 (bT 1 (bF 5 (bT 1 (bF 5 (bT 7 (bF 7 [])))))) [iD r42, .agg [iD r43, iD r44]] [c_T, c_n b1_, c_n b1_, c_n b1_, c_n b1_, c_n b3_, c_T, c_n b5_, c_n b5_, c_n b5_, c_n b5_, c_n bq1_, c_T, c_d bq28_, c_d bq28_, c_d bq28_, c_d bq28_, c_T, c_T, c_n bq30_, c_n bq30_, c_n bq30_, c_n bq30_, c_n bq39_, c_F, c_le 1, c_bn bq52_] [k_c fq48_, k_c fq53_] (by kernel_rfl)
  have hq29_ := (if_neg bq28_).symm.trans hq2_
  by_cases bq55_ : d > (1000 : Int)
  · have hq56_ := (if_pos bq55_).symm.trans hq29_
    by_cases bq57_ : c < (2 : Int)
    · have hq58_ := (if_pos bq57_).symm.trans hq56_
      obtain ⟨r45, fq59_, hq60_⟩ := pullD_elim hq58_
      replace fq59_ := m_83_ok fq59_
      by_cases bq61_ : r45 ≠ (0 : Int)
      · have hq62_ := (if_pos bq61_).symm.trans hq60_
        obtain rfl := Option.some.inj hq62_
        exact con_pc (op := true) (I := [60, 95, 132]) (sp := buckling_sp) 3000 (bT 1 (bF 5 (bT 1 (bF 5 (bT 1 (bF 4 (bT 8 []))))))) [iD r45] [c_T, c_n b1_, c_n b1_, c_n b1_, c_n b1_, c_n b3_, c_T, c_n b5_, c_n b5_, c_n b5_, c_n b5_, c_n bq1_, c_T, c_n bq28_, c_n bq28_, c_n bq28_, c_n bq28_, c_d bq55_, c_T, c_d bq57_, c_d bq57_, c_d bq57_, c_d bq57_, c_T, c_le 1, c_b bq61_] [k_c fq59_] (by kernel_rfl)
      have hq62_ := (if_neg bq61_).symm.trans hq60_
      have bq63_ : r45 = (0 : Int) := by first | exact bq61_ | simpa using bq61_
      obtain ⟨⟨r46, r47⟩, fq64_, hq65_⟩ := pullD_elim hq62_
      replace fq64_ := m_119_ok fq64_
      obtain rfl := Option.some.inj hq65_
      exact con_pc (op := true) (I := [60, 95, 132]) (sp := buckling_sp) 3000 (bT 1 (bF 5 (bT 1 (bF 5 (bT 1 (bF 4 (bT 7 (bF 1 [])))))))) [iD r45, .agg [iD r46, iD r47]] [c_T, c_n b1_, c_n b1_, c_n b1_, c_n b1_, c_n b3_, c_T, c_n b5_, c_n b5_, c_n b5_, c_n b5_, c_n bq1_, c_T, c_n bq28_, c_n bq28_, c_n bq28_, c_n bq28_, c_d bq55_, c_T, c_d bq57_, c_d bq57_, c_d bq57_, c_d bq57_, c_T, c_le 1, c_bn bq63_] [k_c fq59_, k_c fq64_] (by kernel_rfl)
    have hq58_ := (if_neg bq57_).symm.trans hq56_
    by_cases bq66_ : c > (20 : Int)
    · have hq67_ := (if_pos bq66_).symm.trans hq58_
      obtain ⟨r48, fq68_, hq69_⟩ := pullD_elim hq67_
      replace fq68_ := m_83_ok fq68_
      by_cases bq70_ : r48 ≠ (0 : Int)
      · have hq71_ := (if_pos bq70_).symm.trans hq69_
        obtain rfl := Option.some.inj hq71_
        exact con_pc (op := true) (I := [60, 95, 132]) (sp := buckling_sp) 3000 (bT 1 (bF 5 (bT 1 (bF 5 (bT 1 (bF 4 (bT 2 (bF 4 (bT 2 []))))))))) [iD r48] [c_T, c_n b1_, c_n b1_, c_n b1_, c_n b1_, c_n b3_, c_T, c_n b5_, c_n b5_, c_n b5_, c_n b5_, c_n bq1_, c_T, c_n bq28_, c_n bq28_, c_n bq28_, c_n bq28_, c_d bq55_, c_T, c_n bq57_, c_n bq57_, c_n bq57_, c_n bq57_, c_d bq66_, c_le 1, c_b bq70_] [k_c fq68_] (by kernel_rfl)
      have hq71_ := (if_neg bq70_).symm.trans hq69_
      have bq72_ : r48 = (0 : Int) := by first | exact bq70_ | simpa using bq70_
      obtain ⟨⟨r49, r50⟩, fq73_, hq74_⟩ := pullD_elim hq71_
      replace fq73_ := m_119_ok fq73_
      obtain rfl := Option.some.inj hq74_
      exact con_pc (op := true) (I := [60, 95, 132]) (sp := buckling_sp) 3000 (bT 1 (bF 5 (bT 1 (bF 5 (bT 1 (bF 4 (bT 2 (bF 4 (bT 1 (bF 1 [])))))))))) [iD r48, .agg [iD r49, iD r50]] [c_T, c_n b1_, c_n b1_, c_n b1_, c_n b1_, c_n b3_, c_T, c_n b5_, c_n b5_, c_n b5_, c_n b5_, c_n bq1_, c_T, c_n bq28_, c_n bq28_, c_n bq28_, c_n bq28_, c_d bq55_, c_T, c_n bq57_, c_n bq57_, c_n bq57_, c_n bq57_, c_d bq66_, c_le 1, c_bn bq72_] [k_c fq68_, k_c fq73_] (by kernel_rfl)
    have hq67_ := (if_neg bq66_).symm.trans hq58_
    obtain ⟨r51, fq75_, hq76_⟩ := pullD_elim hq67_
    replace fq75_ := m_83_ok fq75_
    by_cases bq77_ : r51 ≠ (0 : Int)
    · have hq78_ := (if_pos bq77_).symm.trans hq76_
      obtain rfl := Option.some.inj hq78_
      exact con_pc (op := true) (I := [60, 95, 132]) (sp := buckling_sp) 3000 (bT 1 (bF 5 (bT 1 (bF 5 (bT 1 (bF 4 (bT 2 (bF 6 (bT 1 []))))))))) [iD r51] [c_T, c_n b1_, c_n b1_, c_n b1_, c_n b1_, c_n b3_, c_T, c_n b5_, c_n b5_, c_n b5_, c_n b5_, c_n bq1_, c_T, c_n bq28_, c_n bq28_, c_n bq28_, c_n bq28_, c_d bq55_, c_T, c_n bq57_, c_n bq57_, c_n bq57_, c_n bq57_, c_n bq66_, c_F, c_le 1, c_b bq77_] [k_c fq75_] (by kernel_rfl)
    have hq78_ := (if_neg bq77_).symm.trans hq76_
    have bq79_ : r51 = (0 : Int) := by first | exact bq77_ | simpa using bq77_
    obtain ⟨⟨r52, r53⟩, fq80_, hq81_⟩ := pullD_elim hq78_
    replace fq80_ := m_119_ok fq80_
    obtain rfl := Option.some.inj hq81_
    exact con_pc (op := true) (I := [60, 95, 132]) (sp := buckling_sp) 3000 (bT 1 (bF 5 (bT 1 (bF 5 (bT 1 (bF 4 (bT 2 (bF 7 [])))))))) [iD r51, .agg [iD r52, iD r53]] [c_T, c_n b1_, c_n b1_, c_n b1_, c_n b1_, c_n b3_, c_T, c_n b5_, c_n b5_, c_n b5_, c_n b5_, c_n bq1_, c_T, c_n bq28_, c_n bq28_, c_n bq28_, c_n bq28_, c_d bq55_, c_T, c_n bq57_, c_n bq57_, c_n bq57_, c_n bq57_, c_n bq66_, c_F, c_le 1, c_bn bq79_] [k_c fq75_, k_c fq80_] (by kernel_rfl)
  have hq56_ := (if_neg bq55_).symm.trans hq29_
  by_cases bq82_ : c < (2 : Int)
  · have hq83_ := (if_pos bq82_).symm.trans hq56_
    obtain ⟨r54, fq84_, hq85_⟩ := pullD_elim hq83_
    replace fq84_ := m_83_ok fq84_
    by_cases bq86_ : r54 ≠ (0 : Int)
    · have hq87_ := (if_pos bq86_).symm.trans hq85_
      obtain rfl := Option.some.inj hq87_
      exact con_pc (op := true) (I := [60, 95, 132]) (sp := buckling_sp) 3000 (bT 1 (bF 5 (bT 1 (bF 5 (bT 1 (bF 6 (bT 7 []))))))) [iD r54] [c_T, c_n b1_, c_n b1_, c_n b1_, c_n b1_, c_n b3_, c_T, c_n b5_, c_n b5_, c_n b5_, c_n b5_, c_n bq1_, c_T, c_n bq28_, c_n bq28_, c_n bq28_, c_n bq28_, c_n bq55_, c_F, c_T, c_d bq82_, c_d bq82_, c_d bq82_, c_d bq82_, c_T, c_le 1, c_b bq86_] [k_c fq84_] (by kernel_rfl)
    have hq87_ := (if_neg bq86_).symm.trans hq85_
    have bq88_ : r54 = (0 : Int) := by first | exact bq86_ | simpa using bq86_
    obtain ⟨⟨r55, r56⟩, fq89_, hq90_⟩ := pullD_elim hq87_
    replace fq89_ := m_119_ok fq89_
    obtain rfl := Option.some.inj hq90_
    exact con_pc (op := true) (I := [60, 95, 132]) (sp := buckling_sp) 3000 (bT 1 (bF 5 (bT 1 (bF 5 (bT 1 (bF 6 (bT 6 (bF 1 [])))))))) [iD r54, .agg [iD r55, iD r56]] [c_T, c_n b1_, c_n b1_, c_n b1_, c_n b1_, c_n b3_, c_T, c_n b5_, c_n b5_, c_n b5_, c_n b5_, c_n bq1_, c_T, c_n bq28_, c_n bq28_, c_n bq28_, c_n bq28_, c_n bq55_, c_F, c_T, c_d bq82_, c_d bq82_, c_d bq82_, c_d bq82_, c_T, c_le 1, c_bn bq88_] [k_c fq84_, k_c fq89_] (by kernel_rfl)
  have hq83_ := (if_neg bq82_).symm.trans hq56_
  by_cases bq91_ : c > (20 : Int)
  · have hq92_ := (if_pos bq91_).symm.trans hq83_
    obtain ⟨r57, fq93_, hq94_⟩ := pullD_elim hq92_
    replace fq93_ := m_83_ok fq93_
    by_cases bq95_ : r57 ≠ (0 : Int)
    · have hq96_ := (if_pos bq95_).symm.trans hq94_
      obtain rfl := Option.some.inj hq96_
      exact con_pc (op := true) (I := [60, 95, 132]) (sp := buckling_sp) 3000 (bT 1 (bF 5 (bT 1 (bF 5 (bT 1 (bF 6 (bT 1 (bF 4 (bT 2 []))))))))) [iD r57] [c_T, c_n b1_, c_n b1_, c_n b1_, c_n b1_, c_n b3_, c_T, c_n b5_, c_n b5_, c_n b5_, c_n b5_, c_n bq1_, c_T, c_n bq28_, c_n bq28_, c_n bq28_, c_n bq28_, c_n bq55_, c_F, c_T, c_n bq82_, c_n bq82_, c_n bq82_, c_n bq82_, c_d bq91_, c_le 1, c_b bq95_] [k_c fq93_] (by kernel_rfl)
    have hq96_ := (if_neg bq95_).symm.trans hq94_
    have bq97_ : r57 = (0 : Int) := by first | exact bq95_ | simpa using bq95_
    obtain ⟨⟨r58, r59⟩, fq98_, hq99_⟩ := pullD_elim hq96_
    replace fq98_ := m_119_ok fq98_
    obtain rfl := Option.some.inj hq99_
    exact con_pc (op := true) (I := [60, 95, 132]) (sp := buckling_sp) 3000 (bT 1 (bF 5 (bT 1 (bF 5 (bT 1 (bF 6 (bT 1 (bF 4 (bT 1 (bF 1 [])))))))))) [iD r57, .agg [iD r58, iD r59]] [c_T, c_n b1_, c_n b1_, c_n b1_, c_n b1_, c_n b3_, c_T, c_n b5_, c_n b5_, c_n b5_, c_n b5_, c_n bq1_, c_T, c_n bq28_, c_n bq28_, c_n bq28_, c_n bq28_, c_n bq55_, c_F, c_T, c_n bq82_, c_n bq82_, c_n bq82_, c_n bq82_, c_d bq91_, c_le 1, c_bn bq97_] [k_c fq93_, k_c fq98_] (by kernel_rfl)
  have hq92_ := (if_neg bq91_).symm.trans hq83_
  obtain ⟨r60, fq100_, hq101_⟩ := pullD_elim hq92_
  replace fq100_ := m_83_ok fq100_
  by_cases bq102_ : r60 ≠ (0 : Int)
  · have hq103_ := (if_pos bq102_).symm.trans hq101_
    obtain rfl := Option.some.inj hq103_
    exact con_pc (op := true) (I := [60, 95, 132]) (sp := buckling_sp) 3000 (bT 1 (bF 5 (bT 1 (bF 5 (bT 1 (bF 6 (bT 1 (bF 6 (bT 1 []))))))))) [iD r60] [c_T, c_n b1_, c_n b1_, c_n b1_, c_n b1_, c_n b3_, c_T, c_n b5_, c_n b5_, c_n b5_, c_n b5_, c_n bq1_, c_T, c_n bq28_, c_n bq28_, c_n bq28_, c_n bq28_, c_n bq55_, c_F, c_T, c_n bq82_, c_n bq82_, c_n bq82_, c_n bq82_, c_n bq91_, c_F, c_le 1, c_b bq102_] [k_c fq100_] (by kernel_rfl)
  have hq103_ := (if_neg bq102_).symm.trans hq101_
  have bq104_ : r60 = (0 : Int) := by first | exact bq102_ | simpa using bq102_
  obtain ⟨⟨r61, r62⟩, fq105_, hq106_⟩ := pullD_elim hq103_
  replace fq105_ := m_119_ok fq105_
  obtain rfl := Option.some.inj hq106_
  exact con_pc (op := true) (I := [60, 95, 132]) (sp := buckling_sp) 3000 (bT 1 (bF 5 (bT 1 (bF 5 (bT 1 (bF 6 (bT 1 (bF 7 [])))))))) [iD r60, .agg [iD r61, iD r62]] [c_T, c_n b1_, c_n b1_, c_n b1_, c_n b1_, c_n b3_, c_T, c_n b5_, c_n b5_, c_n b5_, c_n b5_, c_n bq1_, c_T, c_n bq28_, c_n bq28_, c_n bq28_, c_n bq28_, c_n bq55_, c_F, c_T, c_n bq82_, c_n bq82_, c_n bq82_, c_n bq82_, c_n bq91_, c_F, c_le 1, c_bn bq104_] [k_c fq100_, k_c fq105_] (by kernel_rfl)
theorem buckling_M_ok (a b c d : Int) {r : D} (h : buckling_M a b c d = some r) : Con 60 [(shNF4_0 a b c d)] r := by
  unfold buckling_M at h
  by_cases b1_ : a < (1 : Int)
  · have h2_ := (if_pos b1_).symm.trans h
    exact buckling_M_s0_ok a b c d b1_ h2_
  have h2_ := (if_neg b1_).symm.trans h
  by_cases b3_ : a > (1000 : Int)
  · have h4_ := (if_pos b3_).symm.trans h2_
    exact buckling_M_s1_ok a b c d b1_ b3_ h4_
  have h4_ := (if_neg b3_).symm.trans h2_
  by_cases b5_ : b < (1 : Int)
  · have h6_ := (if_pos b5_).symm.trans h4_
    exact buckling_M_s2_ok a b c d b1_ b3_ b5_ h6_
  have h6_ := (if_neg b5_).symm.trans h4_
  exact buckling_M_s3_ok a b c d b1_ b3_ b5_ h6_
def m_60 (ds : List D) : Option D := pullD (α := Int × Int × Int × Int) (some (.tup ds)) (fun d => ((D.vi (D.at (D.at d 0) 0)), (D.vi (D.at (D.at d 0) 1)), (D.vi (D.at (D.at d 0) 2)), (D.vi (D.at (D.at d 0) 3)))) (fun (a, b, c, d) => .tup [(shNF4_0 a b c d)]) fun (a, b, c, d) => buckling_M a b c d
theorem m_60_ok {ds : List D} {r : D} (h : m_60 ds = some r) : Con 60 ds r := by
  unfold m_60 at h
  obtain ⟨⟨a, b, c, d⟩, e0, h0⟩ := pullD_elim h
  obtain rfl := tup_inj e0
  exact buckling_M_ok a b c d h0
theorem m_60_eq (a b c d : Int) : m_60 [(shNF4_0 a b c d)] = buckling_M a b c d := pullD_some (a, b, c, d) rfl rfl
def coilErr_sp : List LSpec := []
def coilErr_M (a b c d : Int) : Option D := pullD (α := Bool) (m_30 [iD a, iD (1 : Int), iD (1000 : Int)]) (fun d => ((D.vb d))) (fun r0 => .one (.bool r0)) fun r0 => ((if r0 = false then some (iD (2 : Int)) else pullD (α := Bool) (m_30 [iD b, iD (1 : Int), iD (1000 : Int)]) (fun d => ((D.vb d))) (fun r1 => .one (.bool r1)) fun r1 => ((if r1 = false then some (iD (2 : Int)) else pullD (α := Bool) (m_30 [iD d, iD (1 : Int), iD (1000 : Int)]) (fun d => ((D.vb d))) (fun r2 => .one (.bool r2)) fun r2 => ((if r2 = false then some (iD (2 : Int)) else pullD (α := Bool) (m_30 [iD c, iD (2 : Int), iD (20 : Int)]) (fun d => ((D.vb d))) (fun r3 => .one (.bool r3)) fun r3 => ((if r3 = false then some (iD (2 : Int)) else some (iD (0 : Int))))))))))
theorem coilErr_M_ok (a b c d : Int) {r : D} (h : coilErr_M a b c d = some r) : Con 61 [(shNF4_0 a b c d)] r := by
  unfold coilErr_M at h
  obtain ⟨r0, f1_, h2_⟩ := pullD_elim h
  replace f1_ := m_30_ok f1_
  by_cases b3_ : r0 = false
  · have h4_ := (if_pos b3_).symm.trans h2_
    obtain rfl := Option.some.inj h4_
    exact con_pc (op := true) (I := [61]) (sp := coilErr_sp) 3000 (bT 16 []) [.one (.bool r0)] [c_no b3_, c_no b3_, c_no b3_, c_no b3_, c_no b3_, c_T, c_T, c_T, c_T, c_T, c_T, c_T, c_T, c_T, c_T, c_T] [k_c f1_] (by kernel_rfl)
  have h4_ := (if_neg b3_).symm.trans h2_
  have b5_ : r0 = true := by first | exact b3_ | simpa using b3_
  obtain ⟨r1, f6_, h7_⟩ := pullD_elim h4_
  replace f6_ := m_30_ok f6_
  by_cases b8_ : r1 = false
  · have h9_ := (if_pos b8_).symm.trans h7_
    obtain rfl := Option.some.inj h9_
    exact con_pc (op := true) (I := [61]) (sp := coilErr_sp) 3000 (bF 5 (bT 11 [])) [.one (.bool r0), .one (.bool r1)] [c_nn b5_, c_nn b5_, c_nn b5_, c_nn b5_, c_nn b5_, c_no b8_, c_no b8_, c_no b8_, c_no b8_, c_no b8_, c_T, c_T, c_T, c_T, c_T, c_T] [k_c f1_, k_c f6_] (by kernel_rfl)
  have h9_ := (if_neg b8_).symm.trans h7_
  have b10_ : r1 = true := by first | exact b8_ | simpa using b8_
  obtain ⟨r2, f11_, h12_⟩ := pullD_elim h9_
  replace f11_ := m_30_ok f11_
  by_cases b13_ : r2 = false
  · have h14_ := (if_pos b13_).symm.trans h12_
    obtain rfl := Option.some.inj h14_
    exact con_pc (op := true) (I := [61]) (sp := coilErr_sp) 3000 (bF 10 (bT 6 [])) [.one (.bool r0), .one (.bool r1), .one (.bool r2)] [c_nn b5_, c_nn b5_, c_nn b5_, c_nn b5_, c_nn b5_, c_nn b10_, c_nn b10_, c_nn b10_, c_nn b10_, c_nn b10_, c_no b13_, c_no b13_, c_no b13_, c_no b13_, c_no b13_, c_T] [k_c f1_, k_c f6_, k_c f11_] (by kernel_rfl)
  have h14_ := (if_neg b13_).symm.trans h12_
  have b15_ : r2 = true := by first | exact b13_ | simpa using b13_
  obtain ⟨r3, f16_, h17_⟩ := pullD_elim h14_
  replace f16_ := m_30_ok f16_
  by_cases b18_ : r3 = false
  · have h19_ := (if_pos b18_).symm.trans h17_
    obtain rfl := Option.some.inj h19_
    exact con_pc (op := true) (I := [61]) (sp := coilErr_sp) 3000 (bF 15 (bT 1 [])) [.one (.bool r0), .one (.bool r1), .one (.bool r2), .one (.bool r3)] [c_nn b5_, c_nn b5_, c_nn b5_, c_nn b5_, c_nn b5_, c_nn b10_, c_nn b10_, c_nn b10_, c_nn b10_, c_nn b10_, c_nn b15_, c_nn b15_, c_nn b15_, c_nn b15_, c_nn b15_, c_no b18_] [k_c f1_, k_c f6_, k_c f11_, k_c f16_] (by kernel_rfl)
  have h19_ := (if_neg b18_).symm.trans h17_
  have b20_ : r3 = true := by first | exact b18_ | simpa using b18_
  obtain rfl := Option.some.inj h19_
  exact con_pc (op := true) (I := [61]) (sp := coilErr_sp) 3000 (bF 16 []) [.one (.bool r0), .one (.bool r1), .one (.bool r2), .one (.bool r3)] [c_nn b5_, c_nn b5_, c_nn b5_, c_nn b5_, c_nn b5_, c_nn b10_, c_nn b10_, c_nn b10_, c_nn b10_, c_nn b10_, c_nn b15_, c_nn b15_, c_nn b15_, c_nn b15_, c_nn b15_, c_nn b20_] [k_c f1_, k_c f6_, k_c f11_, k_c f16_] (by kernel_rfl)
def m_61 (ds : List D) : Option D := pullD (α := Int × Int × Int × Int) (some (.tup ds)) (fun d => ((D.vi (D.at (D.at d 0) 0)), (D.vi (D.at (D.at d 0) 1)), (D.vi (D.at (D.at d 0) 2)), (D.vi (D.at (D.at d 0) 3)))) (fun (a, b, c, d) => .tup [(shNF4_0 a b c d)]) fun (a, b, c, d) => coilErr_M a b c d
theorem m_61_ok {ds : List D} {r : D} (h : m_61 ds = some r) : Con 61 ds r := by
  unfold m_61 at h
  obtain ⟨⟨a, b, c, d⟩, e0, h0⟩ := pullD_elim h
  obtain rfl := tup_inj e0
  exact coilErr_M_ok a b c d h0
theorem m_61_eq (a b c d : Int) : m_61 [(shNF4_0 a b c d)] = coilErr_M a b c d := pullD_some (a, b, c, d) rfl rfl
def bucklingR_sp : List LSpec := []
def bucklingR_M (a b c d : Int) : Option D := pullD (α := Int × Int) (m_104 [iD (IntKind.i64.wrap (IntKind.i64.wrap (a * b) * IntKind.i64.wrap (IntKind.i64.wrap (c * c) - (1 : Int)))), iD (IntKind.i64.wrap (IntKind.i64.wrap (d * d) * d))]) (fun d => ((D.vi (D.at d 0)), (D.vi (D.at d 1)))) (fun (r0, r1) => .agg [iD r0, iD r1]) fun (r0, r1) => (some (.agg [iD r0, iD r1]))
theorem bucklingR_M_ok (a b c d : Int) {r : D} (h : bucklingR_M a b c d = some r) : Con 62 [(shNF4_0 a b c d)] r := by
  unfold bucklingR_M at h
  obtain ⟨⟨r0, r1⟩, f1_, h2_⟩ := pullD_elim h
  replace f1_ := m_104_ok f1_
  obtain rfl := Option.some.inj h2_
  exact con_pc (op := true) (I := [62]) (sp := bucklingR_sp) 3000 [] [.agg [iD r0, iD r1]] [] [k_c f1_] (by kernel_rfl)
def m_62 (ds : List D) : Option D := pullD (α := Int × Int × Int × Int) (some (.tup ds)) (fun d => ((D.vi (D.at (D.at d 0) 0)), (D.vi (D.at (D.at d 0) 1)), (D.vi (D.at (D.at d 0) 2)), (D.vi (D.at (D.at d 0) 3)))) (fun (a, b, c, d) => .tup [(shNF4_0 a b c d)]) fun (a, b, c, d) => bucklingR_M a b c d
theorem m_62_ok {ds : List D} {r : D} (h : m_62 ds = some r) : Con 62 ds r := by
  unfold m_62 at h
  obtain ⟨⟨a, b, c, d⟩, e0, h0⟩ := pullD_elim h
  obtain rfl := tup_inj e0
  exact bucklingR_M_ok a b c d h0
theorem m_62_eq (a b c d : Int) : m_62 [(shNF4_0 a b c d)] = bucklingR_M a b c d := pullD_some (a, b, c, d) rfl rfl
def rangeErr_sp : List LSpec := []
def rangeErr_M (a b m : Int) : Option D := pullD (α := Bool) (m_30 [iD a, iD (0 : Int), iD m]) (fun d => ((D.vb d))) (fun r0 => .one (.bool r0)) fun r0 => ((if r0 = false then some (iD (2 : Int)) else pullD (α := Bool) (m_30 [iD b, iD (0 : Int), iD m]) (fun d => ((D.vb d))) (fun r1 => .one (.bool r1)) fun r1 => ((if r1 = false then some (iD (2 : Int)) else (if a > b then some (iD (9 : Int)) else some (iD (0 : Int)))))))
theorem rangeErr_M_ok (a b m : Int) {r : D} (h : rangeErr_M a b m = some r) : Con 120 [.agg [iD a, iD b], iD m] r := by
  unfold rangeErr_M at h
  obtain ⟨r0, f1_, h2_⟩ := pullD_elim h
  replace f1_ := m_30_ok f1_
  by_cases b3_ : r0 = false
  · have h4_ := (if_pos b3_).symm.trans h2_
    obtain rfl := Option.some.inj h4_
    exact con_pc (op := true) (I := [120]) (sp := rangeErr_sp) 3000 (bT 7 []) [.one (.bool r0)] [c_no b3_, c_no b3_, c_no b3_, c_no b3_, c_no b3_, c_no b3_, c_T] [k_c f1_] (by kernel_rfl)
  have h4_ := (if_neg b3_).symm.trans h2_
  have b5_ : r0 = true := by first | exact b3_ | simpa using b3_
  obtain ⟨r1, f6_, h7_⟩ := pullD_elim h4_
  replace f6_ := m_30_ok f6_
  by_cases b8_ : r1 = false
  · have h9_ := (if_pos b8_).symm.trans h7_
    obtain rfl := Option.some.inj h9_
    exact con_pc (op := true) (I := [120]) (sp := rangeErr_sp) 3000 (bF 6 (bT 1 [])) [.one (.bool r0), .one (.bool r1)] [c_nn b5_, c_nn b5_, c_nn b5_, c_nn b5_, c_nn b5_, c_nn b5_, c_no b8_] [k_c f1_, k_c f6_] (by kernel_rfl)
  have h9_ := (if_neg b8_).symm.trans h7_
  have b10_ : r1 = true := by first | exact b8_ | simpa using b8_
  by_cases b11_ : a > b
  · have h12_ := (if_pos b11_).symm.trans h9_
    obtain rfl := Option.some.inj h12_
    exact con_pc (op := true) (I := [120]) (sp := rangeErr_sp) 3000 (bF 7 (bT 1 [])) [.one (.bool r0), .one (.bool r1)] [c_nn b5_, c_nn b5_, c_nn b5_, c_nn b5_, c_nn b5_, c_nn b5_, c_nn b10_, c_d b11_] [k_c f1_, k_c f6_] (by kernel_rfl)
  have h12_ := (if_neg b11_).symm.trans h9_
  obtain rfl := Option.some.inj h12_
  exact con_pc (op := true) (I := [120]) (sp := rangeErr_sp) 3000 (bF 8 []) [.one (.bool r0), .one (.bool r1)] [c_nn b5_, c_nn b5_, c_nn b5_, c_nn b5_, c_nn b5_, c_nn b5_, c_nn b10_, c_n b11_] [k_c f1_, k_c f6_] (by kernel_rfl)
def m_120 (ds : List D) : Option D := pullD (α := Int × Int × Int) (some (.tup ds)) (fun d => ((D.vi (D.at (D.at d 0) 0)), (D.vi (D.at (D.at d 0) 1)), (D.vi (D.at d 1)))) (fun (a, b, m) => .tup [.agg [iD a, iD b], iD m]) fun (a, b, m) => rangeErr_M a b m
theorem m_120_ok {ds : List D} {r : D} (h : m_120 ds = some r) : Con 120 ds r := by
  unfold m_120 at h
  obtain ⟨⟨a, b, m⟩, e0, h0⟩ := pullD_elim h
  obtain rfl := tup_inj e0
  exact rangeErr_M_ok a b m h0
theorem m_120_eq (a b m : Int) : m_120 [.agg [iD a, iD b], iD m] = rangeErr_M a b m := pullD_some (a, b, m) rfl rfl
def clampErr_sp : List LSpec := []
def clampErr_M (pa pb pc pd pe pf : Int) : Option D := pullD (α := Int) (m_120 [.agg [iD pa, iD pb], iD (1000000000 : Int)]) (fun d => ((D.vi d))) (fun r0 => iD r0) fun r0 => ((if r0 ≠ (0 : Int) then some (iD r0) else pullD (α := Int) (m_120 [.agg [iD pc, iD pd], iD (1000 : Int)]) (fun d => ((D.vi d))) (fun r1 => iD r1) fun r1 => ((if r1 ≠ (0 : Int) then some (iD r1) else pullD (α := Int) (m_120 [.agg [iD pe, iD pf], iD (10000 : Int)]) (fun d => ((D.vi d))) (fun r2 => iD r2) fun r2 => (some (iD r2))))))
theorem clampErr_M_ok (pa pb pc pd pe pf : Int) {r : D} (h : clampErr_M pa pb pc pd pe pf = some r) : Con 63 [(shNF4_1 pa pb pc pd pe pf)] r := by
  unfold clampErr_M at h
  obtain ⟨r0, f1_, h2_⟩ := pullD_elim h
  replace f1_ := m_120_ok f1_
  by_cases b3_ : r0 ≠ (0 : Int)
  · have h4_ := (if_pos b3_).symm.trans h2_
    obtain rfl := Option.some.inj h4_
    exact con_pc (op := true) (I := [63]) (sp := clampErr_sp) 3000 (bT 1 []) [iD r0] [c_b b3_] [k_c f1_] (by kernel_rfl)
  have h4_ := (if_neg b3_).symm.trans h2_
  have b5_ : r0 = (0 : Int) := by first | exact b3_ | simpa using b3_
  obtain ⟨r1, f6_, h7_⟩ := pullD_elim h4_
  replace f6_ := m_120_ok f6_
  by_cases b8_ : r1 ≠ (0 : Int)
  · have h9_ := (if_pos b8_).symm.trans h7_
    obtain rfl := Option.some.inj h9_
    exact con_pc (op := true) (I := [63]) (sp := clampErr_sp) 3000 (bF 1 (bT 1 [])) [iD r0, iD r1] [c_bn b5_, c_b b8_] [k_c f1_, k_c f6_] (by kernel_rfl)
  have h9_ := (if_neg b8_).symm.trans h7_
  have b10_ : r1 = (0 : Int) := by first | exact b8_ | simpa using b8_
  obtain ⟨r2, f11_, h12_⟩ := pullD_elim h9_
  replace f11_ := m_120_ok f11_
  obtain rfl := Option.some.inj h12_
  exact con_pc (op := true) (I := [63]) (sp := clampErr_sp) 3000 (bF 2 []) [iD r0, iD r1, iD r2] [c_bn b5_, c_bn b10_] [k_c f1_, k_c f6_, k_c f11_] (by kernel_rfl)
def m_63 (ds : List D) : Option D := pullD (α := Int × Int × Int × Int × Int × Int) (some (.tup ds)) (fun d => ((D.vi (D.at (D.at d 0) 0)), (D.vi (D.at (D.at d 0) 1)), (D.vi (D.at (D.at d 0) 2)), (D.vi (D.at (D.at d 0) 3)), (D.vi (D.at (D.at d 0) 4)), (D.vi (D.at (D.at d 0) 5)))) (fun (pa, pb, pc, pd, pe, pf) => .tup [(shNF4_1 pa pb pc pd pe pf)]) fun (pa, pb, pc, pd, pe, pf) => clampErr_M pa pb pc pd pe pf
theorem m_63_ok {ds : List D} {r : D} (h : m_63 ds = some r) : Con 63 ds r := by
  unfold m_63 at h
  obtain ⟨⟨pa, pb, pc, pd, pe, pf⟩, e0, h0⟩ := pullD_elim h
  obtain rfl := tup_inj e0
  exact clampErr_M_ok pa pb pc pd pe pf h0
theorem m_63_eq (pa pb pc pd pe pf : Int) : m_63 [(shNF4_1 pa pb pc pd pe pf)] = clampErr_M pa pb pc pd pe pf := pullD_some (pa, pb, pc, pd, pe, pf) rfl rfl
def clampedR_sp : List LSpec := []
def clampedR_M (pa pb pc pd pe pf : Int) : Option D := some (.agg [iD (IntKind.i64.wrap (pa - IntKind.i64.wrap (pd * pf))), iD (IntKind.i64.wrap (pb - IntKind.i64.wrap (pc * pe)))])
theorem clampedR_M_ok (pa pb pc pd pe pf : Int) {r : D} (h : clampedR_M pa pb pc pd pe pf = some r) : Con 64 [(shNF4_1 pa pb pc pd pe pf)] r := by
  unfold clampedR_M at h
  obtain rfl := Option.some.inj h
  exact con_pc (op := true) (I := [64]) (sp := clampedR_sp) 3000 [] [] [] [] (by kernel_rfl)
def m_64 (ds : List D) : Option D := pullD (α := Int × Int × Int × Int × Int × Int) (some (.tup ds)) (fun d => ((D.vi (D.at (D.at d 0) 0)), (D.vi (D.at (D.at d 0) 1)), (D.vi (D.at (D.at d 0) 2)), (D.vi (D.at (D.at d 0) 3)), (D.vi (D.at (D.at d 0) 4)), (D.vi (D.at (D.at d 0) 5)))) (fun (pa, pb, pc, pd, pe, pf) => .tup [(shNF4_1 pa pb pc pd pe pf)]) fun (pa, pb, pc, pd, pe, pf) => clampedR_M pa pb pc pd pe pf
theorem m_64_ok {ds : List D} {r : D} (h : m_64 ds = some r) : Con 64 ds r := by
  unfold m_64 at h
  obtain ⟨⟨pa, pb, pc, pd, pe, pf⟩, e0, h0⟩ := pullD_elim h
  obtain rfl := tup_inj e0
  exact clampedR_M_ok pa pb pc pd pe pf h0
theorem m_64_eq (pa pb pc pd pe pf : Int) : m_64 [(shNF4_1 pa pb pc pd pe pf)] = clampedR_M pa pb pc pd pe pf := pullD_some (pa, pb, pc, pd, pe, pf) rfl rfl
def staysR_sp : List LSpec := []
def staysR_M (pa pb pc pd pe pf : Int) (a b c d n m u : Int) : Option D := pullD (m_44 [(shNF4_1 a b c d n m)]) shNF4_0P (fun (r0, r1, r2, r3) => (shNF4_0 r0 r1 r2 r3)) fun (r0, r1, r2, r3) => (pullD (α := Int × Int) (m_64 [(shNF4_1 pa pb pc pd pe pf)]) (fun d => ((D.vi (D.at d 0)), (D.vi (D.at d 1)))) (fun (r4, r5) => .agg [iD r4, iD r5]) fun (r4, r5) => (pullD (α := Int) (m_105 [iD u, .agg [iD r2, iD r3], iD r4]) (fun d => ((D.vi d))) (fun r6 => iD r6) fun r6 => ((if r6 ≤ (0 : Int) then some (iD (2 : Int)) else pullD (α := Int) (m_105 [iD u, .agg [iD r0, iD r1], iD r5]) (fun d => ((D.vi d))) (fun r7 => iD r7) fun r7 => ((if r7 > (0 : Int) then some (iD (0 : Int)) else some (iD (1 : Int))))))))
theorem staysR_M_ok (pa pb pc pd pe pf : Int) (a b c d n m u : Int) {r : D} (h : staysR_M pa pb pc pd pe pf a b c d n m u = some r) : Con 65 [(shNF4_1 pa pb pc pd pe pf), (shNF4_1 a b c d n m), iD u] r := by
  unfold staysR_M at h
  obtain ⟨⟨r0, r1, r2, r3⟩, f1_, h2_⟩ := pullD_elim h
  replace f1_ := m_44_ok f1_
  obtain ⟨⟨r4, r5⟩, f3_, h4_⟩ := pullD_elim h2_
  replace f3_ := m_64_ok f3_
  obtain ⟨r6, f5_, h6_⟩ := pullD_elim h4_
  replace f5_ := m_105_ok f5_
  by_cases b7_ : r6 ≤ (0 : Int)
  · have h8_ := (if_pos b7_).symm.trans h6_
    obtain rfl := Option.some.inj h8_
    exact con_pc (op := true) (I := [65]) (sp := staysR_sp) 3000 (bT 1 []) [(shNF4_0 r0 r1 r2 r3), .agg [iD r4, iD r5], iD r6] [c_d b7_] [k_c f1_, k_c f3_, k_c f5_] (by kernel_rfl)
  have h8_ := (if_neg b7_).symm.trans h6_
  obtain ⟨r7, f9_, h10_⟩ := pullD_elim h8_
  replace f9_ := m_105_ok f9_
  by_cases b11_ : r7 > (0 : Int)
  · have h12_ := (if_pos b11_).symm.trans h10_
    obtain rfl := Option.some.inj h12_
    exact con_pc (op := true) (I := [65]) (sp := staysR_sp) 3000 (bF 1 (bT 1 [])) [(shNF4_0 r0 r1 r2 r3), .agg [iD r4, iD r5], iD r6, iD r7] [c_n b7_, c_d b11_] [k_c f1_, k_c f3_, k_c f5_, k_c f9_] (by kernel_rfl)
  have h12_ := (if_neg b11_).symm.trans h10_
  obtain rfl := Option.some.inj h12_
  exact con_pc (op := true) (I := [65]) (sp := staysR_sp) 3000 (bF 2 []) [(shNF4_0 r0 r1 r2 r3), .agg [iD r4, iD r5], iD r6, iD r7] [c_n b7_, c_n b11_] [k_c f1_, k_c f3_, k_c f5_, k_c f9_] (by kernel_rfl)
def m_65 (ds : List D) : Option D := pullD (α := Int × Int × Int × Int × Int × Int × Int × Int × Int × Int × Int × Int × Int) (some (.tup ds)) (fun d => ((D.vi (D.at (D.at d 0) 0)), (D.vi (D.at (D.at d 0) 1)), (D.vi (D.at (D.at d 0) 2)), (D.vi (D.at (D.at d 0) 3)), (D.vi (D.at (D.at d 0) 4)), (D.vi (D.at (D.at d 0) 5)), (D.vi (D.at (D.at d 1) 0)), (D.vi (D.at (D.at d 1) 1)), (D.vi (D.at (D.at d 1) 2)), (D.vi (D.at (D.at d 1) 3)), (D.vi (D.at (D.at d 1) 4)), (D.vi (D.at (D.at d 1) 5)), (D.vi (D.at d 2)))) (fun (pa, pb, pc, pd, pe, pf, a, b, c, d, n, m, u) => .tup [(shNF4_1 pa pb pc pd pe pf), (shNF4_1 a b c d n m), iD u]) fun (pa, pb, pc, pd, pe, pf, a, b, c, d, n, m, u) => staysR_M pa pb pc pd pe pf a b c d n m u
theorem m_65_ok {ds : List D} {r : D} (h : m_65 ds = some r) : Con 65 ds r := by
  unfold m_65 at h
  obtain ⟨⟨pa, pb, pc, pd, pe, pf, a, b, c, d, n, m, u⟩, e0, h0⟩ := pullD_elim h
  obtain rfl := tup_inj e0
  exact staysR_M_ok pa pb pc pd pe pf a b c d n m u h0
theorem m_65_eq (pa pb pc pd pe pf : Int) (a b c d n m u : Int) : m_65 [(shNF4_1 pa pb pc pd pe pf), (shNF4_1 a b c d n m), iD u] = staysR_M pa pb pc pd pe pf a b c d n m u := pullD_some (pa, pb, pc, pd, pe, pf, a, b, c, d, n, m, u) rfl rfl
def law11_sp : List LSpec := []
def law11_M_s0 (pa pb pc pd pe pf : Int) (a b c d n m u ga gb gc gd : Int) (r0 : Bool) (r1 : Int) (r2 : Int) (r3 : Int) (r4 : Int) (r5 : Int) (r6 : Int) (r7 : Int) (r8 : Int) (r9 : Int) : Option D := (if r8 ≠ r9 then some (.one (.bool false)) else (if (!(r6 == (0 : Int) && (r7 == (0 : Int) && true))) = true then some (.one (.bool false)) else pullD (α := Int) (m_63 [(shNF4_1 pa pb pc pd pe pf)]) (fun d => ((D.vi d))) (fun r10 => iD r10) fun r10 => ((if r10 ≠ (0 : Int) then (if r3 = r10 then (if r5 = r10 then (if (r1 == (0 : Int) && (r2 == (0 : Int) && true)) = true then some (.one (.bool (r4 == (0 : Int)))) else some (.one (.bool false))) else some (.one (.bool false))) else some (.one (.bool false))) else (if r3 ≠ (0 : Int) then some (.one (.bool false)) else pullD (α := Int × Int) (m_64 [(shNF4_1 pa pb pc pd pe pf)]) (fun d => ((D.vi (D.at d 0)), (D.vi (D.at d 1)))) (fun (r11, r12) => .agg [iD r11, iD r12]) fun (r11, r12) => ((if (!(r1 == r11 && (r2 == r12 && true))) = true then some (.one (.bool false)) else pullD (α := Int) (m_42 [(shNF4_1 a b c d n m)]) (fun d => ((D.vi d))) (fun r13 => iD r13) fun r13 => ((if r13 = (0 : Int) then pullD (α := Int) (m_45 [iD u]) (fun d => ((D.vi d))) (fun r14 => iD r14) fun r14 => ((if r14 ≠ (0 : Int) then (if r5 = r14 then some (.one (.bool (r4 == (0 : Int)))) else some (.one (.bool false))) else (if r5 = (0 : Int) then pullD (α := Int) (m_65 [(shNF4_1 pa pb pc pd pe pf), (shNF4_1 a b c d n m), iD u]) (fun d => ((D.vi d))) (fun r15 => iD r15) fun r15 => (some (.one (.bool (r4 == r15)))) else some (.one (.bool false))))) else (if r5 = r13 then some (.one (.bool (r4 == (0 : Int)))) else some (.one (.bool false))))))))))))
def law11_M_s1 (pa pb pc pd pe pf : Int) (a b c d n m u ga gb gc gd : Int) (r0 : Bool) (r1 : Int) (r2 : Int) (r3 : Int) (r4 : Int) (r5 : Int) (r6 : Int) (r7 : Int) (r8 : Int) (r9 : Int) : Option D := (if r8 ≠ (0 : Int) then some (.one (.bool false)) else pullD (α := Int × Int) (m_62 [(shNF4_0 ga gb gc gd)]) (fun d => ((D.vi (D.at d 0)), (D.vi (D.at d 1)))) (fun (r16, r17) => .agg [iD r16, iD r17]) fun (r16, r17) => ((if (!(r6 == r16 && (r7 == r17 && true))) = true then some (.one (.bool false)) else pullD (α := Int) (m_63 [(shNF4_1 pa pb pc pd pe pf)]) (fun d => ((D.vi d))) (fun r18 => iD r18) fun r18 => ((if r18 ≠ (0 : Int) then (if r3 = r18 then (if r5 = r18 then (if (r1 == (0 : Int) && (r2 == (0 : Int) && true)) = true then some (.one (.bool (r4 == (0 : Int)))) else some (.one (.bool false))) else some (.one (.bool false))) else some (.one (.bool false))) else (if r3 ≠ (0 : Int) then some (.one (.bool false)) else pullD (α := Int × Int) (m_64 [(shNF4_1 pa pb pc pd pe pf)]) (fun d => ((D.vi (D.at d 0)), (D.vi (D.at d 1)))) (fun (r19, r20) => .agg [iD r19, iD r20]) fun (r19, r20) => ((if (!(r1 == r19 && (r2 == r20 && true))) = true then some (.one (.bool false)) else pullD (α := Int) (m_42 [(shNF4_1 a b c d n m)]) (fun d => ((D.vi d))) (fun r21 => iD r21) fun r21 => ((if r21 = (0 : Int) then pullD (α := Int) (m_45 [iD u]) (fun d => ((D.vi d))) (fun r22 => iD r22) fun r22 => ((if r22 ≠ (0 : Int) then (if r5 = r22 then some (.one (.bool (r4 == (0 : Int)))) else some (.one (.bool false))) else (if r5 = (0 : Int) then pullD (α := Int) (m_65 [(shNF4_1 pa pb pc pd pe pf), (shNF4_1 a b c d n m), iD u]) (fun d => ((D.vi d))) (fun r23 => iD r23) fun r23 => (some (.one (.bool (r4 == r23)))) else some (.one (.bool false))))) else (if r5 = r21 then some (.one (.bool (r4 == (0 : Int)))) else some (.one (.bool false)))))))))))))
def law11_M (pa pb pc pd pe pf : Int) (a b c d n m u ga gb gc gd : Int) : Option D := pullD (α := Bool) (m_13 []) (fun d => ((D.vb d))) (fun r0 => .one (.bool r0)) fun r0 => ((if r0 = false then some (.one (.bool false)) else pullD (α := Int × Int × Int) (m_58 [(shNF4_1 pa pb pc pd pe pf)]) (fun d => ((D.vi (D.at (D.at d 0) 0)), (D.vi (D.at (D.at d 0) 1)), (D.vi (D.at d 1)))) (fun (r1, r2, r3) => .tup [.agg [iD r1, iD r2], iD r3]) fun (r1, r2, r3) => (pullD (α := Int × Int) (m_59 [(shNF4_1 pa pb pc pd pe pf), (shNF4_1 a b c d n m), iD u]) (fun d => ((D.vi (D.at d 0)), (D.vi (D.at d 1)))) (fun (r4, r5) => .tup [iD r4, iD r5]) fun (r4, r5) => (pullD (α := Int × Int × Int) (m_60 [(shNF4_0 ga gb gc gd)]) (fun d => ((D.vi (D.at (D.at d 0) 0)), (D.vi (D.at (D.at d 0) 1)), (D.vi (D.at d 1)))) (fun (r6, r7, r8) => .tup [.agg [iD r6, iD r7], iD r8]) fun (r6, r7, r8) => (pullD (α := Int) (m_61 [(shNF4_0 ga gb gc gd)]) (fun d => ((D.vi d))) (fun r9 => iD r9) fun r9 => ((if r9 ≠ (0 : Int) then law11_M_s0 pa pb pc pd pe pf a b c d n m u ga gb gc gd r0 r1 r2 r3 r4 r5 r6 r7 r8 r9 else law11_M_s1 pa pb pc pd pe pf a b c d n m u ga gb gc gd r0 r1 r2 r3 r4 r5 r6 r7 r8 r9)))))))
theorem law11_M_s0_ok (pa pb pc pd pe pf : Int) (a b c d n m u ga gb gc gd : Int) (r0 : Bool) (r1 : Int) (r2 : Int) (r3 : Int) (r4 : Int) (r5 : Int) (r6 : Int) (r7 : Int) (r8 : Int) (r9 : Int) (f1_ : Con 13 [] (.one (.bool r0))) (b5_ : r0 = true) (f6_ : Con 58 [(shNF4_1 pa pb pc pd pe pf)] (.tup [.agg [iD r1, iD r2], iD r3])) (f8_ : Con 59 [(shNF4_1 pa pb pc pd pe pf), (shNF4_1 a b c d n m), iD u] (.tup [iD r4, iD r5])) (f10_ : Con 60 [(shNF4_0 ga gb gc gd)] (.tup [.agg [iD r6, iD r7], iD r8])) (f12_ : Con 61 [(shNF4_0 ga gb gc gd)] (iD r9)) (b14_ : r9 ≠ (0 : Int)) {r : D} (h : law11_M_s0 pa pb pc pd pe pf a b c d n m u ga gb gc gd r0 r1 r2 r3 r4 r5 r6 r7 r8 r9 = some r) : Con 11 [(shNF4_1 pa pb pc pd pe pf), (shNF4_2 a b c d n m u), (shNF4_0 ga gb gc gd)] r := by
  unfold law11_M_s0 at h
  by_cases bq1_ : r8 ≠ r9
  · have hq2_ := (if_pos bq1_).symm.trans h
    obtain rfl := Option.some.inj hq2_
    exact con_pc (op := true) (I := [11]) (sp := law11_sp) 3000 (bF 1 (bT 16 [])) [.one (.bool r0), .tup [.agg [iD r1, iD r2], iD r3], .tup [iD r4, iD r5], .tup [.agg [iD r6, iD r7], iD r8], iD r9] [c_nn b5_, c_b b14_, c_b b14_, c_b b14_, c_b b14_, c_b bq1_, c_b bq1_, c_b bq1_, c_b b14_, c_b bq1_, c_b b14_, c_T, c_T, c_T, c_T, c_T, c_T] [k_c f1_, k_c f6_, k_c f8_, k_c f10_, k_c f12_] (by kernel_rfl)
  have hq2_ := (if_neg bq1_).symm.trans h
  have bq3_ : r8 = r9 := by first | exact bq1_ | simpa using bq1_
  by_cases bq4_ : (!(r6 == (0 : Int) && (r7 == (0 : Int) && true))) = true
  · have hq5_ := (if_pos bq4_).symm.trans hq2_
    obtain rfl := Option.some.inj hq5_
    exact con_pc (op := true) (I := [11]) (sp := law11_sp) 3000 (bF 1 (bT 4 (bF 3 (bT 1 (bF 1 (bT 7 [])))))) [.one (.bool r0), .tup [.agg [iD r1, iD r2], iD r3], .tup [iD r4, iD r5], .tup [.agg [iD r6, iD r7], iD r8], iD r9] [c_nn b5_, c_b b14_, c_b b14_, c_b b14_, c_b b14_, c_bn bq3_, c_bn bq3_, c_bn bq3_, c_b b14_, c_bn bq3_, c_b b14_, c_q bq4_, c_q bq4_, c_q bq4_, c_q bq4_, c_q bq4_, c_T] [k_c f1_, k_c f6_, k_c f8_, k_c f10_, k_c f12_] (by kernel_rfl)
  have hq5_ := (if_neg bq4_).symm.trans hq2_
  have bq6_ : (!(r6 == (0 : Int) && (r7 == (0 : Int) && true))) = false := by first | exact bq4_ | simpa using bq4_
  obtain ⟨r10, fq7_, hq8_⟩ := pullD_elim hq5_
  replace fq7_ := m_63_ok fq7_
  by_cases bq9_ : r10 ≠ (0 : Int)
  · have hq10_ := (if_pos bq9_).symm.trans hq8_
    by_cases bq11_ : r3 = r10
    · have hq12_ := (if_pos bq11_).symm.trans hq10_
      by_cases bq13_ : r5 = r10
      · have hq14_ := (if_pos bq13_).symm.trans hq12_
        by_cases bq15_ : (r1 == (0 : Int) && (r2 == (0 : Int) && true)) = true
        · have hq16_ := (if_pos bq15_).symm.trans hq14_
          obtain rfl := Option.some.inj hq16_
          exact con_pc (op := true) (I := [11]) (sp := law11_sp) 3000 (bF 1 (bT 4 (bF 3 (bT 1 (bF 1 (bT 1 (bF 11 (bT 12 [])))))))) [.one (.bool r0), .tup [.agg [iD r1, iD r2], iD r3], .tup [iD r4, iD r5], .tup [.agg [iD r6, iD r7], iD r8], iD r9, iD r10] [c_nn b5_, c_b b14_, c_b b14_, c_b b14_, c_b b14_, c_bn bq3_, c_bn bq3_, c_bn bq3_, c_b b14_, c_bn bq3_, c_b b14_, c_q bq6_, c_q bq6_, c_q bq6_, c_en b14_, c_en b14_, c_en b14_, c_en b14_, c_q bq6_, c_en b14_, c_q bq6_, c_F, c_b bq9_, c_e bq11_, c_e bq11_, c_e bq11_, c_e bq11_, c_e bq13_, c_e bq13_, c_e bq13_, c_e bq13_, c_q bq15_, c_q bq15_, c_q bq15_] [k_c f1_, k_c f6_, k_c f8_, k_c f10_, k_c f12_, k_c fq7_] (by kernel_rfl)
        have hq16_ := (if_neg bq15_).symm.trans hq14_
        have bq17_ : (r1 == (0 : Int) && (r2 == (0 : Int) && true)) = false := by first | exact bq15_ | simpa using bq15_
        obtain rfl := Option.some.inj hq16_
        exact con_pc (op := true) (I := [11]) (sp := law11_sp) 3000 (bF 1 (bT 4 (bF 3 (bT 1 (bF 1 (bT 1 (bF 11 (bT 9 (bF 3 []))))))))) [.one (.bool r0), .tup [.agg [iD r1, iD r2], iD r3], .tup [iD r4, iD r5], .tup [.agg [iD r6, iD r7], iD r8], iD r9, iD r10] [c_nn b5_, c_b b14_, c_b b14_, c_b b14_, c_b b14_, c_bn bq3_, c_bn bq3_, c_bn bq3_, c_b b14_, c_bn bq3_, c_b b14_, c_q bq6_, c_q bq6_, c_q bq6_, c_en b14_, c_en b14_, c_en b14_, c_en b14_, c_q bq6_, c_en b14_, c_q bq6_, c_F, c_b bq9_, c_e bq11_, c_e bq11_, c_e bq11_, c_e bq11_, c_e bq13_, c_e bq13_, c_e bq13_, c_e bq13_, c_q bq17_, c_q bq17_, c_q bq17_] [k_c f1_, k_c f6_, k_c f8_, k_c f10_, k_c f12_, k_c fq7_] (by kernel_rfl)
      have hq14_ := (if_neg bq13_).symm.trans hq12_
      have bq18_ : r5 ≠ r10 := by first | exact bq13_ | simpa using bq13_
      obtain rfl := Option.some.inj hq14_
      exact con_pc (op := true) (I := [11]) (sp := law11_sp) 3000 (bF 1 (bT 4 (bF 3 (bT 1 (bF 1 (bT 1 (bF 11 (bT 5 (bF 7 []))))))))) [.one (.bool r0), .tup [.agg [iD r1, iD r2], iD r3], .tup [iD r4, iD r5], .tup [.agg [iD r6, iD r7], iD r8], iD r9, iD r10] [c_nn b5_, c_b b14_, c_b b14_, c_b b14_, c_b b14_, c_bn bq3_, c_bn bq3_, c_bn bq3_, c_b b14_, c_bn bq3_, c_b b14_, c_q bq6_, c_q bq6_, c_q bq6_, c_en b14_, c_en b14_, c_en b14_, c_en b14_, c_q bq6_, c_en b14_, c_q bq6_, c_F, c_b bq9_, c_e bq11_, c_e bq11_, c_e bq11_, c_e bq11_, c_en bq18_, c_en bq18_, c_en bq18_, c_en bq18_, c_F, c_F, c_F] [k_c f1_, k_c f6_, k_c f8_, k_c f10_, k_c f12_, k_c fq7_] (by kernel_rfl)
    have hq12_ := (if_neg bq11_).symm.trans hq10_
    have bq19_ : r3 ≠ r10 := by first | exact bq11_ | simpa using bq11_
    obtain rfl := Option.some.inj hq12_
    exact con_pc (op := true) (I := [11]) (sp := law11_sp) 3000 (bF 1 (bT 4 (bF 3 (bT 1 (bF 1 (bT 1 (bF 11 (bT 1 (bF 11 []))))))))) [.one (.bool r0), .tup [.agg [iD r1, iD r2], iD r3], .tup [iD r4, iD r5], .tup [.agg [iD r6, iD r7], iD r8], iD r9, iD r10] [c_nn b5_, c_b b14_, c_b b14_, c_b b14_, c_b b14_, c_bn bq3_, c_bn bq3_, c_bn bq3_, c_b b14_, c_bn bq3_, c_b b14_, c_q bq6_, c_q bq6_, c_q bq6_, c_en b14_, c_en b14_, c_en b14_, c_en b14_, c_q bq6_, c_en b14_, c_q bq6_, c_F, c_b bq9_, c_en bq19_, c_en bq19_, c_en bq19_, c_en bq19_, c_F, c_F, c_F, c_F, c_F, c_F, c_F] [k_c f1_, k_c f6_, k_c f8_, k_c f10_, k_c f12_, k_c fq7_] (by kernel_rfl)
  have hq10_ := (if_neg bq9_).symm.trans hq8_
  have bq20_ : r10 = (0 : Int) := by first | exact bq9_ | simpa using bq9_
  by_cases bq21_ : r3 ≠ (0 : Int)
  · have hq22_ := (if_pos bq21_).symm.trans hq10_
    obtain rfl := Option.some.inj hq22_
    exact con_pc (op := true) (I := [11]) (sp := law11_sp) 3000 (bF 1 (bT 4 (bF 3 (bT 1 (bF 1 (bT 1 (bF 12 (bT 6 [])))))))) [.one (.bool r0), .tup [.agg [iD r1, iD r2], iD r3], .tup [iD r4, iD r5], .tup [.agg [iD r6, iD r7], iD r8], iD r9, iD r10] [c_nn b5_, c_b b14_, c_b b14_, c_b b14_, c_b b14_, c_bn bq3_, c_bn bq3_, c_bn bq3_, c_b b14_, c_bn bq3_, c_b b14_, c_q bq6_, c_q bq6_, c_q bq6_, c_en b14_, c_en b14_, c_en b14_, c_en b14_, c_q bq6_, c_en b14_, c_q bq6_, c_F, c_bn bq20_, c_b bq21_, c_b bq21_, c_b bq21_, c_b bq21_, c_b bq21_, c_T] [k_c f1_, k_c f6_, k_c f8_, k_c f10_, k_c f12_, k_c fq7_] (by kernel_rfl)
  have hq22_ := (if_neg bq21_).symm.trans hq10_
  have bq23_ : r3 = (0 : Int) := by first | exact bq21_ | simpa using bq21_
  obtain ⟨⟨r11, r12⟩, fq24_, hq25_⟩ := pullD_elim hq22_
  replace fq24_ := m_64_ok fq24_
  by_cases bq26_ : (!(r1 == r11 && (r2 == r12 && true))) = true
  · have hq27_ := (if_pos bq26_).symm.trans hq25_
    obtain rfl := Option.some.inj hq27_
    exact con_pc (op := true) (I := [11]) (sp := law11_sp) 3000 (bF 1 (bT 4 (bF 3 (bT 1 (bF 1 (bT 1 (bF 17 (bT 1 [])))))))) [.one (.bool r0), .tup [.agg [iD r1, iD r2], iD r3], .tup [iD r4, iD r5], .tup [.agg [iD r6, iD r7], iD r8], iD r9, iD r10, .agg [iD r11, iD r12]] [c_nn b5_, c_b b14_, c_b b14_, c_b b14_, c_b b14_, c_bn bq3_, c_bn bq3_, c_bn bq3_, c_b b14_, c_bn bq3_, c_b b14_, c_q bq6_, c_q bq6_, c_q bq6_, c_en b14_, c_en b14_, c_en b14_, c_en b14_, c_q bq6_, c_en b14_, c_q bq6_, c_F, c_bn bq20_, c_bn bq23_, c_bn bq23_, c_bn bq23_, c_bn bq23_, c_bn bq23_, c_q bq26_] [k_c f1_, k_c f6_, k_c f8_, k_c f10_, k_c f12_, k_c fq7_, k_c fq24_] (by kernel_rfl)
  have hq27_ := (if_neg bq26_).symm.trans hq25_
  have bq28_ : (!(r1 == r11 && (r2 == r12 && true))) = false := by first | exact bq26_ | simpa using bq26_
  obtain ⟨r13, fq29_, hq30_⟩ := pullD_elim hq27_
  replace fq29_ := m_42_ok fq29_
  by_cases bq31_ : r13 = (0 : Int)
  · have hq32_ := (if_pos bq31_).symm.trans hq30_
    obtain ⟨r14, fq33_, hq34_⟩ := pullD_elim hq32_
    replace fq33_ := m_45_ok fq33_
    by_cases bq35_ : r14 ≠ (0 : Int)
    · have hq36_ := (if_pos bq35_).symm.trans hq34_
      by_cases bq37_ : r5 = r14
      · have hq38_ := (if_pos bq37_).symm.trans hq36_
        obtain rfl := Option.some.inj hq38_
        exact con_pc (op := true) (I := [11]) (sp := law11_sp) 3000 (bF 1 (bT 4 (bF 3 (bT 1 (bF 1 (bT 1 (bF 18 (bT 5 [])))))))) [.one (.bool r0), .tup [.agg [iD r1, iD r2], iD r3], .tup [iD r4, iD r5], .tup [.agg [iD r6, iD r7], iD r8], iD r9, iD r10, .agg [iD r11, iD r12], iD r13, iD r14] [c_nn b5_, c_b b14_, c_b b14_, c_b b14_, c_b b14_, c_bn bq3_, c_bn bq3_, c_bn bq3_, c_b b14_, c_bn bq3_, c_b b14_, c_q bq6_, c_q bq6_, c_q bq6_, c_en b14_, c_en b14_, c_en b14_, c_en b14_, c_q bq6_, c_en b14_, c_q bq6_, c_F, c_bn bq20_, c_bn bq23_, c_bn bq23_, c_bn bq23_, c_bn bq23_, c_bn bq23_, c_q bq28_, c_e bq31_, c_b bq35_, c_e bq37_, c_e bq37_, c_e bq37_] [k_c f1_, k_c f6_, k_c f8_, k_c f10_, k_c f12_, k_c fq7_, k_c fq24_, k_c fq29_, k_c fq33_] (by kernel_rfl)
      have hq38_ := (if_neg bq37_).symm.trans hq36_
      have bq39_ : r5 ≠ r14 := by first | exact bq37_ | simpa using bq37_
      obtain rfl := Option.some.inj hq38_
      exact con_pc (op := true) (I := [11]) (sp := law11_sp) 3000 (bF 1 (bT 4 (bF 3 (bT 1 (bF 1 (bT 1 (bF 18 (bT 2 (bF 3 []))))))))) [.one (.bool r0), .tup [.agg [iD r1, iD r2], iD r3], .tup [iD r4, iD r5], .tup [.agg [iD r6, iD r7], iD r8], iD r9, iD r10, .agg [iD r11, iD r12], iD r13, iD r14] [c_nn b5_, c_b b14_, c_b b14_, c_b b14_, c_b b14_, c_bn bq3_, c_bn bq3_, c_bn bq3_, c_b b14_, c_bn bq3_, c_b b14_, c_q bq6_, c_q bq6_, c_q bq6_, c_en b14_, c_en b14_, c_en b14_, c_en b14_, c_q bq6_, c_en b14_, c_q bq6_, c_F, c_bn bq20_, c_bn bq23_, c_bn bq23_, c_bn bq23_, c_bn bq23_, c_bn bq23_, c_q bq28_, c_e bq31_, c_b bq35_, c_en bq39_, c_en bq39_, c_en bq39_] [k_c f1_, k_c f6_, k_c f8_, k_c f10_, k_c f12_, k_c fq7_, k_c fq24_, k_c fq29_, k_c fq33_] (by kernel_rfl)
    have hq36_ := (if_neg bq35_).symm.trans hq34_
    have bq40_ : r14 = (0 : Int) := by first | exact bq35_ | simpa using bq35_
    by_cases bq41_ : r5 = (0 : Int)
    · have hq42_ := (if_pos bq41_).symm.trans hq36_
      obtain ⟨r15, fq43_, hq44_⟩ := pullD_elim hq42_
      replace fq43_ := m_65_ok fq43_
      obtain rfl := Option.some.inj hq44_
      exact con_pc (op := true) (I := [11]) (sp := law11_sp) 3000 (bF 1 (bT 4 (bF 3 (bT 1 (bF 1 (bT 1 (bF 18 (bT 1 (bF 1 (bT 9 [])))))))))) [.one (.bool r0), .tup [.agg [iD r1, iD r2], iD r3], .tup [iD r4, iD r5], .tup [.agg [iD r6, iD r7], iD r8], iD r9, iD r10, .agg [iD r11, iD r12], iD r13, iD r14, iD r15] [c_nn b5_, c_b b14_, c_b b14_, c_b b14_, c_b b14_, c_bn bq3_, c_bn bq3_, c_bn bq3_, c_b b14_, c_bn bq3_, c_b b14_, c_q bq6_, c_q bq6_, c_q bq6_, c_en b14_, c_en b14_, c_en b14_, c_en b14_, c_q bq6_, c_en b14_, c_q bq6_, c_F, c_bn bq20_, c_bn bq23_, c_bn bq23_, c_bn bq23_, c_bn bq23_, c_bn bq23_, c_q bq28_, c_e bq31_, c_bn bq40_, c_e bq41_, c_e bq41_, c_e bq41_, c_e bq41_, c_e bq41_, c_e bq41_, c_e bq41_, c_e bq41_, c_e bq41_] [k_c f1_, k_c f6_, k_c f8_, k_c f10_, k_c f12_, k_c fq7_, k_c fq24_, k_c fq29_, k_c fq33_, k_c fq43_] (by kernel_rfl)
    have hq42_ := (if_neg bq41_).symm.trans hq36_
    have bq45_ : r5 ≠ (0 : Int) := by first | exact bq41_ | simpa using bq41_
    obtain rfl := Option.some.inj hq42_
    exact con_pc (op := true) (I := [11]) (sp := law11_sp) 3000 (bF 1 (bT 4 (bF 3 (bT 1 (bF 1 (bT 1 (bF 18 (bT 1 (bF 10 []))))))))) [.one (.bool r0), .tup [.agg [iD r1, iD r2], iD r3], .tup [iD r4, iD r5], .tup [.agg [iD r6, iD r7], iD r8], iD r9, iD r10, .agg [iD r11, iD r12], iD r13, iD r14] [c_nn b5_, c_b b14_, c_b b14_, c_b b14_, c_b b14_, c_bn bq3_, c_bn bq3_, c_bn bq3_, c_b b14_, c_bn bq3_, c_b b14_, c_q bq6_, c_q bq6_, c_q bq6_, c_en b14_, c_en b14_, c_en b14_, c_en b14_, c_q bq6_, c_en b14_, c_q bq6_, c_F, c_bn bq20_, c_bn bq23_, c_bn bq23_, c_bn bq23_, c_bn bq23_, c_bn bq23_, c_q bq28_, c_e bq31_, c_bn bq40_, c_en bq45_, c_en bq45_, c_en bq45_, c_en bq45_, c_en bq45_, c_en bq45_, c_en bq45_, c_en bq45_, c_en bq45_] [k_c f1_, k_c f6_, k_c f8_, k_c f10_, k_c f12_, k_c fq7_, k_c fq24_, k_c fq29_, k_c fq33_] (by kernel_rfl)
  have hq32_ := (if_neg bq31_).symm.trans hq30_
  have bq46_ : r13 ≠ (0 : Int) := by first | exact bq31_ | simpa using bq31_
  by_cases bq47_ : r5 = r13
  · have hq48_ := (if_pos bq47_).symm.trans hq32_
    obtain rfl := Option.some.inj hq48_
    exact con_pc (op := true) (I := [11]) (sp := law11_sp) 3000 (bF 1 (bT 4 (bF 3 (bT 1 (bF 1 (bT 1 (bF 19 (bT 4 [])))))))) [.one (.bool r0), .tup [.agg [iD r1, iD r2], iD r3], .tup [iD r4, iD r5], .tup [.agg [iD r6, iD r7], iD r8], iD r9, iD r10, .agg [iD r11, iD r12], iD r13] [c_nn b5_, c_b b14_, c_b b14_, c_b b14_, c_b b14_, c_bn bq3_, c_bn bq3_, c_bn bq3_, c_b b14_, c_bn bq3_, c_b b14_, c_q bq6_, c_q bq6_, c_q bq6_, c_en b14_, c_en b14_, c_en b14_, c_en b14_, c_q bq6_, c_en b14_, c_q bq6_, c_F, c_bn bq20_, c_bn bq23_, c_bn bq23_, c_bn bq23_, c_bn bq23_, c_bn bq23_, c_q bq28_, c_en bq46_, c_b bq46_, c_e bq47_, c_e bq47_, c_e bq47_] [k_c f1_, k_c f6_, k_c f8_, k_c f10_, k_c f12_, k_c fq7_, k_c fq24_, k_c fq29_] (by kernel_rfl)
  have hq48_ := (if_neg bq47_).symm.trans hq32_
  have bq49_ : r5 ≠ r13 := by first | exact bq47_ | simpa using bq47_
  obtain rfl := Option.some.inj hq48_
  exact con_pc (op := true) (I := [11]) (sp := law11_sp) 3000 (bF 1 (bT 4 (bF 3 (bT 1 (bF 1 (bT 1 (bF 19 (bT 1 (bF 3 []))))))))) [.one (.bool r0), .tup [.agg [iD r1, iD r2], iD r3], .tup [iD r4, iD r5], .tup [.agg [iD r6, iD r7], iD r8], iD r9, iD r10, .agg [iD r11, iD r12], iD r13] [c_nn b5_, c_b b14_, c_b b14_, c_b b14_, c_b b14_, c_bn bq3_, c_bn bq3_, c_bn bq3_, c_b b14_, c_bn bq3_, c_b b14_, c_q bq6_, c_q bq6_, c_q bq6_, c_en b14_, c_en b14_, c_en b14_, c_en b14_, c_q bq6_, c_en b14_, c_q bq6_, c_F, c_bn bq20_, c_bn bq23_, c_bn bq23_, c_bn bq23_, c_bn bq23_, c_bn bq23_, c_q bq28_, c_en bq46_, c_b bq46_, c_en bq49_, c_en bq49_, c_en bq49_] [k_c f1_, k_c f6_, k_c f8_, k_c f10_, k_c f12_, k_c fq7_, k_c fq24_, k_c fq29_] (by kernel_rfl)
theorem law11_M_s1_ok (pa pb pc pd pe pf : Int) (a b c d n m u ga gb gc gd : Int) (r0 : Bool) (r1 : Int) (r2 : Int) (r3 : Int) (r4 : Int) (r5 : Int) (r6 : Int) (r7 : Int) (r8 : Int) (r9 : Int) (f1_ : Con 13 [] (.one (.bool r0))) (b5_ : r0 = true) (f6_ : Con 58 [(shNF4_1 pa pb pc pd pe pf)] (.tup [.agg [iD r1, iD r2], iD r3])) (f8_ : Con 59 [(shNF4_1 pa pb pc pd pe pf), (shNF4_1 a b c d n m), iD u] (.tup [iD r4, iD r5])) (f10_ : Con 60 [(shNF4_0 ga gb gc gd)] (.tup [.agg [iD r6, iD r7], iD r8])) (f12_ : Con 61 [(shNF4_0 ga gb gc gd)] (iD r9)) (b16_ : r9 = (0 : Int)) {r : D} (h : law11_M_s1 pa pb pc pd pe pf a b c d n m u ga gb gc gd r0 r1 r2 r3 r4 r5 r6 r7 r8 r9 = some r) : Con 11 [(shNF4_1 pa pb pc pd pe pf), (shNF4_2 a b c d n m u), (shNF4_0 ga gb gc gd)] r := by
  unfold law11_M_s1 at h
  by_cases bq1_ : r8 ≠ (0 : Int)
  · have hq2_ := (if_pos bq1_).symm.trans h
    obtain rfl := Option.some.inj hq2_
    exact con_pc (op := true) (I := [11]) (sp := law11_sp) 3000 (bF 10 (bT 9 (bF 1 (bT 1 (bF 1 (bT 1 [])))))) [.one (.bool r0), .tup [.agg [iD r1, iD r2], iD r3], .tup [iD r4, iD r5], .tup [.agg [iD r6, iD r7], iD r8], iD r9] [c_nn b5_, c_bn b16_, c_bn b16_, c_bn b16_, c_bn b16_, c_bn b16_, c_bn b16_, c_F, c_F, c_F, c_e b16_, c_e b16_, c_e b16_, c_b bq1_, c_b bq1_, c_b bq1_, c_b bq1_, c_e b16_, c_b bq1_, c_F, c_e b16_, c_F, c_T] [k_c f1_, k_c f6_, k_c f8_, k_c f10_, k_c f12_] (by kernel_rfl)
  have hq2_ := (if_neg bq1_).symm.trans h
  have bq3_ : r8 = (0 : Int) := by first | exact bq1_ | simpa using bq1_
  obtain ⟨⟨r16, r17⟩, fq4_, hq5_⟩ := pullD_elim hq2_
  replace fq4_ := m_62_ok fq4_
  by_cases bq6_ : (!(r6 == r16 && (r7 == r17 && true))) = true
  · have hq7_ := (if_pos bq6_).symm.trans hq5_
    obtain rfl := Option.some.inj hq7_
    exact con_pc (op := true) (I := [11]) (sp := law11_sp) 3000 (bF 10 (bT 3 (bF 4 (bT 1 (bF 2 (bT 1 (bF 1 (bT 1 [])))))))) [.one (.bool r0), .tup [.agg [iD r1, iD r2], iD r3], .tup [iD r4, iD r5], .tup [.agg [iD r6, iD r7], iD r8], iD r9, .agg [iD r16, iD r17]] [c_nn b5_, c_bn b16_, c_bn b16_, c_bn b16_, c_bn b16_, c_bn b16_, c_bn b16_, c_F, c_F, c_F, c_e b16_, c_e b16_, c_e b16_, c_bn bq3_, c_bn bq3_, c_bn bq3_, c_bn bq3_, c_e b16_, c_bn bq3_, c_F, c_e b16_, c_F, c_q bq6_] [k_c f1_, k_c f6_, k_c f8_, k_c f10_, k_c f12_, k_c fq4_] (by kernel_rfl)
  have hq7_ := (if_neg bq6_).symm.trans hq5_
  have bq8_ : (!(r6 == r16 && (r7 == r17 && true))) = false := by first | exact bq6_ | simpa using bq6_
  obtain ⟨r18, fq9_, hq10_⟩ := pullD_elim hq7_
  replace fq9_ := m_63_ok fq9_
  by_cases bq11_ : r18 ≠ (0 : Int)
  · have hq12_ := (if_pos bq11_).symm.trans hq10_
    by_cases bq13_ : r3 = r18
    · have hq14_ := (if_pos bq13_).symm.trans hq12_
      by_cases bq15_ : r5 = r18
      · have hq16_ := (if_pos bq15_).symm.trans hq14_
        by_cases bq17_ : (r1 == (0 : Int) && (r2 == (0 : Int) && true)) = true
        · have hq18_ := (if_pos bq17_).symm.trans hq16_
          obtain rfl := Option.some.inj hq18_
          exact con_pc (op := true) (I := [11]) (sp := law11_sp) 3000 (bF 10 (bT 3 (bF 4 (bT 1 (bF 2 (bT 1 (bF 2 (bT 12 [])))))))) [.one (.bool r0), .tup [.agg [iD r1, iD r2], iD r3], .tup [iD r4, iD r5], .tup [.agg [iD r6, iD r7], iD r8], iD r9, .agg [iD r16, iD r17], iD r18] [c_nn b5_, c_bn b16_, c_bn b16_, c_bn b16_, c_bn b16_, c_bn b16_, c_bn b16_, c_F, c_F, c_F, c_e b16_, c_e b16_, c_e b16_, c_bn bq3_, c_bn bq3_, c_bn bq3_, c_bn bq3_, c_e b16_, c_bn bq3_, c_F, c_e b16_, c_F, c_q bq8_, c_b bq11_, c_e bq13_, c_e bq13_, c_e bq13_, c_e bq13_, c_e bq15_, c_e bq15_, c_e bq15_, c_e bq15_, c_q bq17_, c_q bq17_, c_q bq17_] [k_c f1_, k_c f6_, k_c f8_, k_c f10_, k_c f12_, k_c fq4_, k_c fq9_] (by kernel_rfl)
        have hq18_ := (if_neg bq17_).symm.trans hq16_
        have bq19_ : (r1 == (0 : Int) && (r2 == (0 : Int) && true)) = false := by first | exact bq17_ | simpa using bq17_
        obtain rfl := Option.some.inj hq18_
        exact con_pc (op := true) (I := [11]) (sp := law11_sp) 3000 (bF 10 (bT 3 (bF 4 (bT 1 (bF 2 (bT 1 (bF 2 (bT 9 (bF 3 []))))))))) [.one (.bool r0), .tup [.agg [iD r1, iD r2], iD r3], .tup [iD r4, iD r5], .tup [.agg [iD r6, iD r7], iD r8], iD r9, .agg [iD r16, iD r17], iD r18] [c_nn b5_, c_bn b16_, c_bn b16_, c_bn b16_, c_bn b16_, c_bn b16_, c_bn b16_, c_F, c_F, c_F, c_e b16_, c_e b16_, c_e b16_, c_bn bq3_, c_bn bq3_, c_bn bq3_, c_bn bq3_, c_e b16_, c_bn bq3_, c_F, c_e b16_, c_F, c_q bq8_, c_b bq11_, c_e bq13_, c_e bq13_, c_e bq13_, c_e bq13_, c_e bq15_, c_e bq15_, c_e bq15_, c_e bq15_, c_q bq19_, c_q bq19_, c_q bq19_] [k_c f1_, k_c f6_, k_c f8_, k_c f10_, k_c f12_, k_c fq4_, k_c fq9_] (by kernel_rfl)
      have hq16_ := (if_neg bq15_).symm.trans hq14_
      have bq20_ : r5 ≠ r18 := by first | exact bq15_ | simpa using bq15_
      obtain rfl := Option.some.inj hq16_
      exact con_pc (op := true) (I := [11]) (sp := law11_sp) 3000 (bF 10 (bT 3 (bF 4 (bT 1 (bF 2 (bT 1 (bF 2 (bT 5 (bF 7 []))))))))) [.one (.bool r0), .tup [.agg [iD r1, iD r2], iD r3], .tup [iD r4, iD r5], .tup [.agg [iD r6, iD r7], iD r8], iD r9, .agg [iD r16, iD r17], iD r18] [c_nn b5_, c_bn b16_, c_bn b16_, c_bn b16_, c_bn b16_, c_bn b16_, c_bn b16_, c_F, c_F, c_F, c_e b16_, c_e b16_, c_e b16_, c_bn bq3_, c_bn bq3_, c_bn bq3_, c_bn bq3_, c_e b16_, c_bn bq3_, c_F, c_e b16_, c_F, c_q bq8_, c_b bq11_, c_e bq13_, c_e bq13_, c_e bq13_, c_e bq13_, c_en bq20_, c_en bq20_, c_en bq20_, c_en bq20_, c_F, c_F, c_F] [k_c f1_, k_c f6_, k_c f8_, k_c f10_, k_c f12_, k_c fq4_, k_c fq9_] (by kernel_rfl)
    have hq14_ := (if_neg bq13_).symm.trans hq12_
    have bq21_ : r3 ≠ r18 := by first | exact bq13_ | simpa using bq13_
    obtain rfl := Option.some.inj hq14_
    exact con_pc (op := true) (I := [11]) (sp := law11_sp) 3000 (bF 10 (bT 3 (bF 4 (bT 1 (bF 2 (bT 1 (bF 2 (bT 1 (bF 11 []))))))))) [.one (.bool r0), .tup [.agg [iD r1, iD r2], iD r3], .tup [iD r4, iD r5], .tup [.agg [iD r6, iD r7], iD r8], iD r9, .agg [iD r16, iD r17], iD r18] [c_nn b5_, c_bn b16_, c_bn b16_, c_bn b16_, c_bn b16_, c_bn b16_, c_bn b16_, c_F, c_F, c_F, c_e b16_, c_e b16_, c_e b16_, c_bn bq3_, c_bn bq3_, c_bn bq3_, c_bn bq3_, c_e b16_, c_bn bq3_, c_F, c_e b16_, c_F, c_q bq8_, c_b bq11_, c_en bq21_, c_en bq21_, c_en bq21_, c_en bq21_, c_F, c_F, c_F, c_F, c_F, c_F, c_F] [k_c f1_, k_c f6_, k_c f8_, k_c f10_, k_c f12_, k_c fq4_, k_c fq9_] (by kernel_rfl)
  have hq12_ := (if_neg bq11_).symm.trans hq10_
  have bq22_ : r18 = (0 : Int) := by first | exact bq11_ | simpa using bq11_
  by_cases bq23_ : r3 ≠ (0 : Int)
  · have hq24_ := (if_pos bq23_).symm.trans hq12_
    obtain rfl := Option.some.inj hq24_
    exact con_pc (op := true) (I := [11]) (sp := law11_sp) 3000 (bF 10 (bT 3 (bF 4 (bT 1 (bF 2 (bT 1 (bF 3 (bT 6 [])))))))) [.one (.bool r0), .tup [.agg [iD r1, iD r2], iD r3], .tup [iD r4, iD r5], .tup [.agg [iD r6, iD r7], iD r8], iD r9, .agg [iD r16, iD r17], iD r18] [c_nn b5_, c_bn b16_, c_bn b16_, c_bn b16_, c_bn b16_, c_bn b16_, c_bn b16_, c_F, c_F, c_F, c_e b16_, c_e b16_, c_e b16_, c_bn bq3_, c_bn bq3_, c_bn bq3_, c_bn bq3_, c_e b16_, c_bn bq3_, c_F, c_e b16_, c_F, c_q bq8_, c_bn bq22_, c_b bq23_, c_b bq23_, c_b bq23_, c_b bq23_, c_b bq23_, c_T] [k_c f1_, k_c f6_, k_c f8_, k_c f10_, k_c f12_, k_c fq4_, k_c fq9_] (by kernel_rfl)
  have hq24_ := (if_neg bq23_).symm.trans hq12_
  have bq25_ : r3 = (0 : Int) := by first | exact bq23_ | simpa using bq23_
  obtain ⟨⟨r19, r20⟩, fq26_, hq27_⟩ := pullD_elim hq24_
  replace fq26_ := m_64_ok fq26_
  by_cases bq28_ : (!(r1 == r19 && (r2 == r20 && true))) = true
  · have hq29_ := (if_pos bq28_).symm.trans hq27_
    obtain rfl := Option.some.inj hq29_
    exact con_pc (op := true) (I := [11]) (sp := law11_sp) 3000 (bF 10 (bT 3 (bF 4 (bT 1 (bF 2 (bT 1 (bF 8 (bT 1 [])))))))) [.one (.bool r0), .tup [.agg [iD r1, iD r2], iD r3], .tup [iD r4, iD r5], .tup [.agg [iD r6, iD r7], iD r8], iD r9, .agg [iD r16, iD r17], iD r18, .agg [iD r19, iD r20]] [c_nn b5_, c_bn b16_, c_bn b16_, c_bn b16_, c_bn b16_, c_bn b16_, c_bn b16_, c_F, c_F, c_F, c_e b16_, c_e b16_, c_e b16_, c_bn bq3_, c_bn bq3_, c_bn bq3_, c_bn bq3_, c_e b16_, c_bn bq3_, c_F, c_e b16_, c_F, c_q bq8_, c_bn bq22_, c_bn bq25_, c_bn bq25_, c_bn bq25_, c_bn bq25_, c_bn bq25_, c_q bq28_] [k_c f1_, k_c f6_, k_c f8_, k_c f10_, k_c f12_, k_c fq4_, k_c fq9_, k_c fq26_] (by kernel_rfl)
  have hq29_ := (if_neg bq28_).symm.trans hq27_
  have bq30_ : (!(r1 == r19 && (r2 == r20 && true))) = false := by first | exact bq28_ | simpa using bq28_
  obtain ⟨r21, fq31_, hq32_⟩ := pullD_elim hq29_
  replace fq31_ := m_42_ok fq31_
  by_cases bq33_ : r21 = (0 : Int)
  · have hq34_ := (if_pos bq33_).symm.trans hq32_
    obtain ⟨r22, fq35_, hq36_⟩ := pullD_elim hq34_
    replace fq35_ := m_45_ok fq35_
    by_cases bq37_ : r22 ≠ (0 : Int)
    · have hq38_ := (if_pos bq37_).symm.trans hq36_
      by_cases bq39_ : r5 = r22
      · have hq40_ := (if_pos bq39_).symm.trans hq38_
        obtain rfl := Option.some.inj hq40_
        exact con_pc (op := true) (I := [11]) (sp := law11_sp) 3000 (bF 10 (bT 3 (bF 4 (bT 1 (bF 2 (bT 1 (bF 9 (bT 5 [])))))))) [.one (.bool r0), .tup [.agg [iD r1, iD r2], iD r3], .tup [iD r4, iD r5], .tup [.agg [iD r6, iD r7], iD r8], iD r9, .agg [iD r16, iD r17], iD r18, .agg [iD r19, iD r20], iD r21, iD r22] [c_nn b5_, c_bn b16_, c_bn b16_, c_bn b16_, c_bn b16_, c_bn b16_, c_bn b16_, c_F, c_F, c_F, c_e b16_, c_e b16_, c_e b16_, c_bn bq3_, c_bn bq3_, c_bn bq3_, c_bn bq3_, c_e b16_, c_bn bq3_, c_F, c_e b16_, c_F, c_q bq8_, c_bn bq22_, c_bn bq25_, c_bn bq25_, c_bn bq25_, c_bn bq25_, c_bn bq25_, c_q bq30_, c_e bq33_, c_b bq37_, c_e bq39_, c_e bq39_, c_e bq39_] [k_c f1_, k_c f6_, k_c f8_, k_c f10_, k_c f12_, k_c fq4_, k_c fq9_, k_c fq26_, k_c fq31_, k_c fq35_] (by kernel_rfl)
      have hq40_ := (if_neg bq39_).symm.trans hq38_
      have bq41_ : r5 ≠ r22 := by first | exact bq39_ | simpa using bq39_
      obtain rfl := Option.some.inj hq40_
      exact con_pc (op := true) (I := [11]) (sp := law11_sp) 3000 (bF 10 (bT 3 (bF 4 (bT 1 (bF 2 (bT 1 (bF 9 (bT 2 (bF 3 []))))))))) [.one (.bool r0), .tup [.agg [iD r1, iD r2], iD r3], .tup [iD r4, iD r5], .tup [.agg [iD r6, iD r7], iD r8], iD r9, .agg [iD r16, iD r17], iD r18, .agg [iD r19, iD r20], iD r21, iD r22] [c_nn b5_, c_bn b16_, c_bn b16_, c_bn b16_, c_bn b16_, c_bn b16_, c_bn b16_, c_F, c_F, c_F, c_e b16_, c_e b16_, c_e b16_, c_bn bq3_, c_bn bq3_, c_bn bq3_, c_bn bq3_, c_e b16_, c_bn bq3_, c_F, c_e b16_, c_F, c_q bq8_, c_bn bq22_, c_bn bq25_, c_bn bq25_, c_bn bq25_, c_bn bq25_, c_bn bq25_, c_q bq30_, c_e bq33_, c_b bq37_, c_en bq41_, c_en bq41_, c_en bq41_] [k_c f1_, k_c f6_, k_c f8_, k_c f10_, k_c f12_, k_c fq4_, k_c fq9_, k_c fq26_, k_c fq31_, k_c fq35_] (by kernel_rfl)
    have hq38_ := (if_neg bq37_).symm.trans hq36_
    have bq42_ : r22 = (0 : Int) := by first | exact bq37_ | simpa using bq37_
    by_cases bq43_ : r5 = (0 : Int)
    · have hq44_ := (if_pos bq43_).symm.trans hq38_
      obtain ⟨r23, fq45_, hq46_⟩ := pullD_elim hq44_
      replace fq45_ := m_65_ok fq45_
      obtain rfl := Option.some.inj hq46_
      exact con_pc (op := true) (I := [11]) (sp := law11_sp) 3000 (bF 10 (bT 3 (bF 4 (bT 1 (bF 2 (bT 1 (bF 9 (bT 1 (bF 1 (bT 9 [])))))))))) [.one (.bool r0), .tup [.agg [iD r1, iD r2], iD r3], .tup [iD r4, iD r5], .tup [.agg [iD r6, iD r7], iD r8], iD r9, .agg [iD r16, iD r17], iD r18, .agg [iD r19, iD r20], iD r21, iD r22, iD r23] [c_nn b5_, c_bn b16_, c_bn b16_, c_bn b16_, c_bn b16_, c_bn b16_, c_bn b16_, c_F, c_F, c_F, c_e b16_, c_e b16_, c_e b16_, c_bn bq3_, c_bn bq3_, c_bn bq3_, c_bn bq3_, c_e b16_, c_bn bq3_, c_F, c_e b16_, c_F, c_q bq8_, c_bn bq22_, c_bn bq25_, c_bn bq25_, c_bn bq25_, c_bn bq25_, c_bn bq25_, c_q bq30_, c_e bq33_, c_bn bq42_, c_e bq43_, c_e bq43_, c_e bq43_, c_e bq43_, c_e bq43_, c_e bq43_, c_e bq43_, c_e bq43_, c_e bq43_] [k_c f1_, k_c f6_, k_c f8_, k_c f10_, k_c f12_, k_c fq4_, k_c fq9_, k_c fq26_, k_c fq31_, k_c fq35_, k_c fq45_] (by kernel_rfl)
    have hq44_ := (if_neg bq43_).symm.trans hq38_
    have bq47_ : r5 ≠ (0 : Int) := by first | exact bq43_ | simpa using bq43_
    obtain rfl := Option.some.inj hq44_
    exact con_pc (op := true) (I := [11]) (sp := law11_sp) 3000 (bF 10 (bT 3 (bF 4 (bT 1 (bF 2 (bT 1 (bF 9 (bT 1 (bF 10 []))))))))) [.one (.bool r0), .tup [.agg [iD r1, iD r2], iD r3], .tup [iD r4, iD r5], .tup [.agg [iD r6, iD r7], iD r8], iD r9, .agg [iD r16, iD r17], iD r18, .agg [iD r19, iD r20], iD r21, iD r22] [c_nn b5_, c_bn b16_, c_bn b16_, c_bn b16_, c_bn b16_, c_bn b16_, c_bn b16_, c_F, c_F, c_F, c_e b16_, c_e b16_, c_e b16_, c_bn bq3_, c_bn bq3_, c_bn bq3_, c_bn bq3_, c_e b16_, c_bn bq3_, c_F, c_e b16_, c_F, c_q bq8_, c_bn bq22_, c_bn bq25_, c_bn bq25_, c_bn bq25_, c_bn bq25_, c_bn bq25_, c_q bq30_, c_e bq33_, c_bn bq42_, c_en bq47_, c_en bq47_, c_en bq47_, c_en bq47_, c_en bq47_, c_en bq47_, c_en bq47_, c_en bq47_, c_en bq47_] [k_c f1_, k_c f6_, k_c f8_, k_c f10_, k_c f12_, k_c fq4_, k_c fq9_, k_c fq26_, k_c fq31_, k_c fq35_] (by kernel_rfl)
  have hq34_ := (if_neg bq33_).symm.trans hq32_
  have bq48_ : r21 ≠ (0 : Int) := by first | exact bq33_ | simpa using bq33_
  by_cases bq49_ : r5 = r21
  · have hq50_ := (if_pos bq49_).symm.trans hq34_
    obtain rfl := Option.some.inj hq50_
    exact con_pc (op := true) (I := [11]) (sp := law11_sp) 3000 (bF 10 (bT 3 (bF 4 (bT 1 (bF 2 (bT 1 (bF 10 (bT 4 [])))))))) [.one (.bool r0), .tup [.agg [iD r1, iD r2], iD r3], .tup [iD r4, iD r5], .tup [.agg [iD r6, iD r7], iD r8], iD r9, .agg [iD r16, iD r17], iD r18, .agg [iD r19, iD r20], iD r21] [c_nn b5_, c_bn b16_, c_bn b16_, c_bn b16_, c_bn b16_, c_bn b16_, c_bn b16_, c_F, c_F, c_F, c_e b16_, c_e b16_, c_e b16_, c_bn bq3_, c_bn bq3_, c_bn bq3_, c_bn bq3_, c_e b16_, c_bn bq3_, c_F, c_e b16_, c_F, c_q bq8_, c_bn bq22_, c_bn bq25_, c_bn bq25_, c_bn bq25_, c_bn bq25_, c_bn bq25_, c_q bq30_, c_en bq48_, c_b bq48_, c_e bq49_, c_e bq49_, c_e bq49_] [k_c f1_, k_c f6_, k_c f8_, k_c f10_, k_c f12_, k_c fq4_, k_c fq9_, k_c fq26_, k_c fq31_] (by kernel_rfl)
  have hq50_ := (if_neg bq49_).symm.trans hq34_
  have bq51_ : r5 ≠ r21 := by first | exact bq49_ | simpa using bq49_
  obtain rfl := Option.some.inj hq50_
  exact con_pc (op := true) (I := [11]) (sp := law11_sp) 3000 (bF 10 (bT 3 (bF 4 (bT 1 (bF 2 (bT 1 (bF 10 (bT 1 (bF 3 []))))))))) [.one (.bool r0), .tup [.agg [iD r1, iD r2], iD r3], .tup [iD r4, iD r5], .tup [.agg [iD r6, iD r7], iD r8], iD r9, .agg [iD r16, iD r17], iD r18, .agg [iD r19, iD r20], iD r21] [c_nn b5_, c_bn b16_, c_bn b16_, c_bn b16_, c_bn b16_, c_bn b16_, c_bn b16_, c_F, c_F, c_F, c_e b16_, c_e b16_, c_e b16_, c_bn bq3_, c_bn bq3_, c_bn bq3_, c_bn bq3_, c_e b16_, c_bn bq3_, c_F, c_e b16_, c_F, c_q bq8_, c_bn bq22_, c_bn bq25_, c_bn bq25_, c_bn bq25_, c_bn bq25_, c_bn bq25_, c_q bq30_, c_en bq48_, c_b bq48_, c_en bq51_, c_en bq51_, c_en bq51_] [k_c f1_, k_c f6_, k_c f8_, k_c f10_, k_c f12_, k_c fq4_, k_c fq9_, k_c fq26_, k_c fq31_] (by kernel_rfl)
theorem law11_M_ok (pa pb pc pd pe pf : Int) (a b c d n m u ga gb gc gd : Int) {r : D} (h : law11_M pa pb pc pd pe pf a b c d n m u ga gb gc gd = some r) : Con 11 [(shNF4_1 pa pb pc pd pe pf), (shNF4_2 a b c d n m u), (shNF4_0 ga gb gc gd)] r := by
  unfold law11_M at h
  obtain ⟨r0, f1_, h2_⟩ := pullD_elim h
  replace f1_ := m_13_ok f1_
  by_cases b3_ : r0 = false
  · have h4_ := (if_pos b3_).symm.trans h2_
    obtain rfl := Option.some.inj h4_
    exact con_pc (op := true) (I := [11]) (sp := law11_sp) 3000 (bT 1 []) [.one (.bool r0)] [c_no b3_] [k_c f1_] (by kernel_rfl)
  have h4_ := (if_neg b3_).symm.trans h2_
  have b5_ : r0 = true := by first | exact b3_ | simpa using b3_
  obtain ⟨⟨r1, r2, r3⟩, f6_, h7_⟩ := pullD_elim h4_
  replace f6_ := m_58_ok f6_
  obtain ⟨⟨r4, r5⟩, f8_, h9_⟩ := pullD_elim h7_
  replace f8_ := m_59_ok f8_
  obtain ⟨⟨r6, r7, r8⟩, f10_, h11_⟩ := pullD_elim h9_
  replace f10_ := m_60_ok f10_
  obtain ⟨r9, f12_, h13_⟩ := pullD_elim h11_
  replace f12_ := m_61_ok f12_
  by_cases b14_ : r9 ≠ (0 : Int)
  · have h15_ := (if_pos b14_).symm.trans h13_
    exact law11_M_s0_ok pa pb pc pd pe pf a b c d n m u ga gb gc gd r0 r1 r2 r3 r4 r5 r6 r7 r8 r9 f1_ b5_ f6_ f8_ f10_ f12_ b14_ h15_
  have h15_ := (if_neg b14_).symm.trans h13_
  have b16_ : r9 = (0 : Int) := by first | exact b14_ | simpa using b14_
  exact law11_M_s1_ok pa pb pc pd pe pf a b c d n m u ga gb gc gd r0 r1 r2 r3 r4 r5 r6 r7 r8 r9 f1_ b5_ f6_ f8_ f10_ f12_ b16_ h15_
def m_11 (ds : List D) : Option D := pullD (α := Int × Int × Int × Int × Int × Int × Int × Int × Int × Int × Int × Int × Int × Int × Int × Int × Int) (some (.tup ds)) (fun d => ((D.vi (D.at (D.at d 0) 0)), (D.vi (D.at (D.at d 0) 1)), (D.vi (D.at (D.at d 0) 2)), (D.vi (D.at (D.at d 0) 3)), (D.vi (D.at (D.at d 0) 4)), (D.vi (D.at (D.at d 0) 5)), (D.vi (D.at (D.at d 1) 0)), (D.vi (D.at (D.at d 1) 1)), (D.vi (D.at (D.at d 1) 2)), (D.vi (D.at (D.at d 1) 3)), (D.vi (D.at (D.at d 1) 4)), (D.vi (D.at (D.at d 1) 5)), (D.vi (D.at (D.at d 1) 6)), (D.vi (D.at (D.at d 2) 0)), (D.vi (D.at (D.at d 2) 1)), (D.vi (D.at (D.at d 2) 2)), (D.vi (D.at (D.at d 2) 3)))) (fun (pa, pb, pc, pd, pe, pf, a, b, c, d, n, m, u, ga, gb, gc, gd) => .tup [(shNF4_1 pa pb pc pd pe pf), (shNF4_2 a b c d n m u), (shNF4_0 ga gb gc gd)]) fun (pa, pb, pc, pd, pe, pf, a, b, c, d, n, m, u, ga, gb, gc, gd) => law11_M pa pb pc pd pe pf a b c d n m u ga gb gc gd
theorem m_11_ok {ds : List D} {r : D} (h : m_11 ds = some r) : Con 11 ds r := by
  unfold m_11 at h
  obtain ⟨⟨pa, pb, pc, pd, pe, pf, a, b, c, d, n, m, u, ga, gb, gc, gd⟩, e0, h0⟩ := pullD_elim h
  obtain rfl := tup_inj e0
  exact law11_M_ok pa pb pc pd pe pf a b c d n m u ga gb gc gd h0
theorem m_11_eq (pa pb pc pd pe pf : Int) (a b c d n m u ga gb gc gd : Int) : m_11 [(shNF4_1 pa pb pc pd pe pf), (shNF4_2 a b c d n m u), (shNF4_0 ga gb gc gd)] = law11_M pa pb pc pd pe pf a b c d n m u ga gb gc gd := pullD_some (pa, pb, pc, pd, pe, pf, a, b, c, d, n, m, u, ga, gb, gc, gd) rfl rfl
end
end Go.Proofs.Ytlnolhhoakmdhaa
/- The law of clamps. -/
namespace Go.Proofs.Ytlnolhhoakmdhaa
open Go.Ev Go.RowKit
set_option maxRecDepth 100000
set_option maxHeartbeats 4000000
theorem inOrder1 (a b : Int) : m_102 [.list 1 [iD a, iD b]] = some (iD (if a > b then 9 else 0)) := by
  rw [m_102_eq]
  unfold inOrder_M
  have r0 : readD [iD a, iD b] (((0 : Nat) : Int).toNat * 2) 2 true = some (.agg [iD a, iD b]) := by simp [readD]
  have s0 : inOrder_L2_S 1 [iD a, iD b] (.next 0 [iD ((0 : Nat) : Int)]) = some (if a > b then .out 1 [iD 9] else .next 0 [iD ((1 : Nat) : Int)]) := by
    show inOrder_L2_S0 _ _ _ = _
    unfold inOrder_L2_S0
    rw [pullD_some ((0 : Nat) : Int) (by rfl) (by rfl), if_pos (by decide), guardP_pos (by decide), r0, pullD_some (a, b) (by rfl) (by rfl)]
    dsimp only
    split <;> rfl
  have s2 : inOrder_L2_S 1 [iD a, iD b] (.next 0 [iD ((1 : Nat) : Int)]) = some (.out 0 []) := by
    show inOrder_L2_S0 _ _ _ = _
    unfold inOrder_L2_S0
    rw [pullD_some ((1 : Nat) : Int) (by rfl) (by rfl), if_neg (by decide)]
  have h : runR (inOrder_L2_S 1 [iD a, iD b]) (.next 0 [.one (.int .i64 0)]) = some (if a > b then .out 1 [iD 9] else .out 0 []) := by
    show runR _ (.next 0 [iD ((0 : Nat) : Int)]) = _
    by_cases h1 : a > b
    · rw [if_pos h1] at s0; rw [runR_exit s0, if_pos h1]
    · rw [if_neg h1] at s0
      rw [runR_next s0, runR_exit s2, if_neg h1]
  by_cases h1 : a > b
  · rw [if_pos h1] at h ⊢
    rw [bindL_some h, if_neg (by decide), if_pos rfl, pullD_some (9 : Int) (by rfl) (by rfl)]
  · rw [if_neg h1] at h ⊢
    rw [bindL_some h, if_pos rfl, pullD_some () (by rfl) (by rfl)]
theorem f2 (x y : Int) : m_83 [.list 2 [iD x, iD y]] = some (iD (firstV [x, y])) := firstOf_eq [x, y] (by simp)
def ordE (a b : Int) : Int := if a > b then 9 else 0
def outE (a b k : Int) : Int := if a < 0 ∨ a > k ∨ b < 0 ∨ b > k then 2 else 0
def clampE (pa pb pc pd pe pf : Int) : Int := firstV [firstV [outE pa pb 1000000000, ordE pa pb], firstV [outE pc pd 1000, ordE pc pd], firstV [outE pe pf 10000, ordE pe pf]]
theorem inOrder1' (a b : Int) : m_102 [.list 1 [iD a, iD b]] = some (iD (ordE a b)) := inOrder1 a b
theorem five (a b k : Int) : a < 0 ∨ (¬ a < 0 ∧ a > k) ∨ (¬ a < 0 ∧ ¬ a > k ∧ b < 0) ∨ (¬ a < 0 ∧ ¬ a > k ∧ ¬ b < 0 ∧ b > k) ∨ (¬ a < 0 ∧ ¬ a > k ∧ ¬ b < 0 ∧ ¬ b > k) := by omega
theorem chkClamp_eq (pa pb pc pd pe pf : Int) : m_115 [.agg [iD pa, iD pb, iD pc, iD pd, iD pe, iD pf]] = some (iD (clampE pa pb pc pd pe pf)) := by
  rw [m_115_eq]
  unfold chkClamp_M clampE
  unfold chkClamp_M_s0 chkClamp_M_s1 chkClamp_M_s2 chkClamp_M_s3 chkClamp_M_s4 chkClamp_M_s5 chkClamp_M_s6 chkClamp_M_s7 chkClamp_M_s8 chkClamp_M_s9
  simp only [inOrder1', f2, f3, pullI]
  generalize ordE pa pb = X
  generalize ordE pc pd = Y
  generalize ordE pe pf = Z
  have o1 : ∀ a b k : Int, (a < 0 ∨ a > k ∨ b < 0 ∨ b > k) → outE a b k = 2 := fun a b k h => if_pos h
  have o2 : ∀ a b k : Int, ¬ (a < 0 ∨ a > k ∨ b < 0 ∨ b > k) → outE a b k = 0 := fun a b k h => if_neg h
  all_goals rcases five pa pb 1000000000 with g1 | ⟨g1, g2⟩ | ⟨g1, g2, g3⟩ | ⟨g1, g2, g3, g4⟩ | ⟨g1, g2, g3, g4⟩
  all_goals first
    | rw [if_neg g1, if_neg g2, if_neg g3, if_neg g4, o2 pa pb _ (by omega)]
    | rw [if_neg g1, if_neg g2, if_neg g3, if_pos g4, o1 pa pb _ (by omega)]
    | rw [if_neg g1, if_neg g2, if_pos g3, o1 pa pb _ (by omega)]
    | rw [if_neg g1, if_pos g2, o1 pa pb _ (by omega)]
    | rw [if_pos g1, o1 pa pb _ (by omega)]
  all_goals rcases five pc pd 1000 with p1 | ⟨p1, p2⟩ | ⟨p1, p2, p3⟩ | ⟨p1, p2, p3, p4⟩ | ⟨p1, p2, p3, p4⟩
  all_goals first
    | rw [if_neg p1, if_neg p2, if_neg p3, if_neg p4, o2 pc pd _ (by omega)]
    | rw [if_neg p1, if_neg p2, if_neg p3, if_pos p4, o1 pc pd _ (by omega)]
    | rw [if_neg p1, if_neg p2, if_pos p3, o1 pc pd _ (by omega)]
    | rw [if_neg p1, if_pos p2, o1 pc pd _ (by omega)]
    | rw [if_pos p1, o1 pc pd _ (by omega)]
  all_goals rcases five pe pf 10000 with q1 | ⟨q1, q2⟩ | ⟨q1, q2, q3⟩ | ⟨q1, q2, q3, q4⟩ | ⟨q1, q2, q3, q4⟩
  all_goals first
    | rw [if_neg q1, if_neg q2, if_neg q3, if_neg q4, o2 pe pf _ (by omega)]
    | rw [if_neg q1, if_neg q2, if_neg q3, if_pos q4, o1 pe pf _ (by omega)]
    | rw [if_neg q1, if_neg q2, if_pos q3, o1 pe pf _ (by omega)]
    | rw [if_neg q1, if_pos q2, o1 pe pf _ (by omega)]
    | rw [if_pos q1, o1 pe pf _ (by omega)]
theorem rangeErr_eq (a b k : Int) : m_120 [.agg [iD a, iD b], iD k] = some (iD (firstV [outE a b k, ordE a b])) := by
  rw [m_120_eq]
  unfold rangeErr_M outE ordE
  rw [within_eq a, within_eq b]
  simp only [pullB]
  repeat' split
  all_goals first
    | (simp only [decide_eq_false_iff_not] at *; exfalso; omega)
    | (simp only [decide_eq_false_iff_not] at *; simp only [firstV]; simp_all; done)
    | (simp only [decide_eq_false_iff_not, Classical.not_not] at *; simp [firstV])
theorem clampErr_eq (pa pb pc pd pe pf : Int) : m_63 [.agg [iD pa, iD pb, iD pc, iD pd, iD pe, iD pf]] = some (iD (clampE pa pb pc pd pe pf)) := by
  rw [m_63_eq]
  unfold clampErr_M clampE
  simp only [rangeErr_eq, pullI]
  generalize firstV [outE pa pb 1000000000, ordE pa pb] = X
  generalize firstV [outE pc pd 1000, ordE pc pd] = Y
  generalize firstV [outE pe pf 10000, ordE pe pf] = Z
  simp only [firstV]
  by_cases h1 : X = 0
  · rw [if_neg (by simp [h1]), if_pos h1]
    by_cases h2 : Y = 0
    · rw [if_neg (by simp [h2]), if_pos h2]
      by_cases h3 : Z = 0
      · rw [if_pos h3, h3]
      · rw [if_neg h3]
    · rw [if_pos h2, if_neg h2]
  · rw [if_pos h1, if_neg h1]
abbrev loC (pa pd pf : Int) : Int := IntKind.i64.wrap (pa - IntKind.i64.wrap (pd * pf))
theorem wrap_range (x : Int) : -9223372036854775808 ≤ IntKind.i64.wrap x ∧ IntKind.i64.wrap x < 9223372036854775808 := by
  unfold IntKind.wrap
  show -9223372036854775808 ≤ (if (true && _) then _ else _) ∧ (if (true && _) then _ else _) < 9223372036854775808
  simp only [Bool.true_and, decide_eq_true_eq]
  show -9223372036854775808 ≤ (if x % 18446744073709551616 ≥ 9223372036854775808 then x % 18446744073709551616 - 18446744073709551616 else x % 18446744073709551616) ∧ (if x % 18446744073709551616 ≥ 9223372036854775808 then x % 18446744073709551616 - 18446744073709551616 else x % 18446744073709551616) < 9223372036854775808
  split <;> omega
abbrev cD (pa pb pc pd pe pf : Int) : D := .agg [iD pa, iD pb, iD pc, iD pd, iD pe, iD pf]
theorem clampedOf_bad {pa pb pc pd pe pf : Int} (h : clampE pa pb pc pd pe pf ≠ 0) : m_58 [cD pa pb pc pd pe pf] = some (.tup [.agg [iD 0, iD 0], iD (clampE pa pb pc pd pe pf)]) := by
  rw [m_58_eq]
  unfold clampedOf_M
  have h1 : m_115 [shNF4_1 pa pb pc pd pe pf] = _ := chkClamp_eq pa pb pc pd pe pf
  rw [h1, pullI, if_pos h]
theorem clampedOf_ok {pa pb pc pd pe pf : Int} (h : clampE pa pb pc pd pe pf = 0) : m_58 [cD pa pb pc pd pe pf] = some (.tup [.agg [iD (loC pa pd pf), iD (loC pb pc pe)], iD 0]) := by
  rw [m_58_eq]
  unfold clampedOf_M
  have h1 : m_115 [shNF4_1 pa pb pc pd pe pf] = _ := chkClamp_eq pa pb pc pd pe pf
  have h2 : m_116 [shNF4_1 pa pb pc pd pe pf] = some (.agg [iD (loC pa pd pf), iD (loC pb pc pe)]) := by rw [m_116_eq]; rfl
  rw [h1, pullI, if_neg (by simp [h]), h2, pullD_some (loC pa pd pf, loC pb pc pe) (by rfl) (by rfl)]
def useE (a b c d n m u : Int) : Int := firstV [faultE a b c d n m, rngE u 0 10000000]
theorem stays_bad1 {pa pb pc pd pe pf : Int} (a b c d n m u : Int) (h : clampE pa pb pc pd pe pf ≠ 0) : m_59 [cD pa pb pc pd pe pf, fD a b c d n m, iD u] = some (.tup [iD 0, iD (clampE pa pb pc pd pe pf)]) := by
  rw [m_59_eq]
  unfold stays_M
  have h1 : m_115 [shNF4_1 pa pb pc pd pe pf] = _ := chkClamp_eq pa pb pc pd pe pf
  rw [h1, pullI, if_pos h]
theorem stays_bad2 {pa pb pc pd pe pf a b c d n m u : Int} (h : clampE pa pb pc pd pe pf = 0) (h2 : useE a b c d n m u ≠ 0) : m_59 [cD pa pb pc pd pe pf, fD a b c d n m, iD u] = some (.tup [iD 0, iD (useE a b c d n m u)]) := by
  rw [m_59_eq]
  unfold stays_M
  have h1 : m_115 [shNF4_1 pa pb pc pd pe pf] = _ := chkClamp_eq pa pb pc pd pe pf
  have h3 : m_98 [shNF4_1 a b c d n m] = _ := chkdFault_eq a b c d n m
  rw [h1, pullI, if_neg (by simp [h])]
  unfold useE at h2 ⊢
  by_cases hf : faultE a b c d n m ≠ 0
  · rw [if_pos hf] at h3
    rw [h3, pullD_some ((0 : Int), (0 : Int), (0 : Int), (0 : Int), (0 : Int), (0 : Int), faultE a b c d n m) (by rfl) (by rfl)]
    dsimp only
    rw [chkUnit_eq, pullI, f2, pullI, if_pos h2]
  · rw [if_neg hf] at h3
    have hf0 : faultE a b c d n m = 0 := by omega
    rw [hf0] at h2 ⊢
    rw [h3, pullD_some (a, b, c, d, n, m, (0 : Int)) (by rfl) (by rfl)]
    dsimp only
    rw [chkUnit_eq, pullI, f2, pullI, if_pos h2]
theorem useE_ok {a b c d n m u : Int} (h : useE a b c d n m u = 0) : faultE a b c d n m = 0 ∧ rngE u 0 10000000 = 0 ∧ 0 ≤ u ∧ u ≤ 10000000 := by
  unfold useE at h
  simp only [firstV] at h
  split at h
  · rename_i h1
    split at h
    · rename_i h2
      refine ⟨h1, h2, ?_⟩
      unfold rngE at h2
      split at h2
      · cases h2
      · omega
    · contradiction
  · contradiction
theorem stays_ok {pa pb pc pd pe pf a b c d n m u : Int} (h : clampE pa pb pc pd pe pf = 0) (h2 : useE a b c d n m u = 0) : m_59 [cD pa pb pc pd pe pf, fD a b c d n m, iD u] = some (.tup [iD (ansV (loC pa pd pf) (loC pb pc pe) u (loQ a d n m) (loQ b c n m)), iD 0]) := by
  obtain ⟨k1, k2, k3, k4⟩ := useE_ok h2
  rw [m_59_eq]
  unfold stays_M
  have h1 : m_115 [shNF4_1 pa pb pc pd pe pf] = _ := chkClamp_eq pa pb pc pd pe pf
  have h3 : m_98 [shNF4_1 a b c d n m] = _ := chkdFault_eq a b c d n m
  rw [if_neg (by omega)] at h3
  have h4 : m_116 [shNF4_1 pa pb pc pd pe pf] = some (.agg [iD (loC pa pd pf), iD (loC pb pc pe)]) := by rw [m_116_eq]; rfl
  have h5 : m_118 [shNF4_1 a b c d n m, iD u] = _ := forces_eq (fault_ok k1) k3 k4
  rw [h1, pullI, if_neg (by simp [h]), h3, pullD_some (a, b, c, d, n, m, (0 : Int)) (by rfl) (by rfl)]
  dsimp only
  rw [chkUnit_eq, pullI, f2, pullI, k2, if_neg (by decide), h4, pullD_some (loC pa pd pf, loC pb pc pe) (by rfl) (by rfl)]
  dsimp only
  rw [h5, pullD_some (upF u (loQ a d n m).num ((loQ a d n m).den : Int), upF u (loQ b c n m).num ((loQ b c n m).den : Int)) (by rfl) (by rfl)]
  dsimp only
  rw [answerOf_eq, pullI]
  rfl
theorem staysR_eq {pa pb pc pd pe pf a b c d n m u : Int} (hl : -9223372036854775808 < loC pa pd pf) (hh : -9223372036854775808 < loC pb pc pe) (h2 : useE a b c d n m u = 0) : m_65 [cD pa pb pc pd pe pf, fD a b c d n m, iD u] = some (iD (ansV (loC pa pd pf) (loC pb pc pe) u (loQ a d n m) (loQ b c n m))) := by
  obtain ⟨k1, k2, k3, k4⟩ := useE_ok h2
  have h := fault_ok k1
  rw [m_65_eq]
  unfold staysR_M
  have hp : m_44 [shNF4_1 a b c d n m] = _ := peakR_eq h
  have h4 : m_64 [shNF4_1 pa pb pc pd pe pf] = some (.agg [iD (loC pa pd pf), iD (loC pb pc pe)]) := by rw [m_64_eq]; rfl
  rw [hp, pullD_some ((loQ a d n m).num, ((loQ a d n m).den : Int), (loQ b c n m).num, ((loQ b c n m).den : Int)) (by rfl) (by rfl)]
  dsimp only
  rw [h4, pullD_some (loC pa pd pf, loC pb pc pe) (by rfl) (by rfl)]
  dsimp only
  rw [cmpForce_eq h.hi k3 k4 hl (wrap_range _).2, pullI, cmpForce_eq h.lo k3 k4 hh (wrap_range _).2, pullI]
  unfold ansV
  have e1 := cmpQ_le (forceQ u (loQ b c n m)) (loC pa pd pf : Rat)
  rw [forceQ_le] at e1
  have e2 := cmpQ_le (forceQ u (loQ a d n m)) (loC pb pc pe : Rat)
  rw [forceQ_le] at e2
  by_cases h1 : cmpQ (forceQ u (loQ b c n m)) (loC pa pd pf : Rat) ≤ 0
  · rw [if_pos h1, if_pos (e1.1 h1)]
  · rw [if_neg h1, if_neg (fun h2 => h1 (e1.2 h2))]
    by_cases h3 : cmpQ (forceQ u (loQ a d n m)) (loC pb pc pe : Rat) ≤ 0
    · rw [if_neg (by omega), if_neg (by have := e2.1 h3; omega)]
    · rw [if_pos (by omega), if_pos (by have : ¬ upF u (loQ a d n m).num ((loQ a d n m).den : Int) ≤ loC pb pc pe := fun h2 => h3 (e2.2 h2); omega)]
theorem clamp_bounds {pa pb pc pd pe pf : Int} (h : clampE pa pb pc pd pe pf = 0) : -9223372036854775808 < loC pa pd pf ∧ -9223372036854775808 < loC pb pc pe := by
  have key : ∀ a b k : Int, firstV [outE a b k, ordE a b] = 0 → 0 ≤ a ∧ a ≤ k ∧ 0 ≤ b ∧ b ≤ k := fun a b k h => by
    simp only [firstV] at h
    split at h
    · rename_i h1
      unfold outE at h1
      split at h1
      · cases h1
      · omega
    · contradiction
  have f0 : ∀ x y z : Int, firstV [x, y, z] = 0 → x = 0 ∧ y = 0 ∧ z = 0 := fun x y z h => by
    simp only [firstV] at h
    split at h
    · split at h
      · split at h
        · exact ⟨by assumption, by assumption, by assumption⟩
        · contradiction
      · contradiction
    · contradiction
  obtain ⟨h1, h2, h3⟩ := f0 _ _ _ h
  have a1 := key _ _ _ h1
  have a2 := key _ _ _ h2
  have a3 := key _ _ _ h3
  have p1 := mul2_le a2.2.2.1 a2.2.2.2 a3.2.2.1 a3.2.2.2
  have p2 := mul2_le a2.1 a2.2.1 a3.1 a3.2.1
  unfold loC
  rw [wrapI (pd * pf) (by omega) (by omega), wrapI (pc * pe) (by omega) (by omega), wrapI (pa - pd * pf) (by omega) (by omega), wrapI (pb - pc * pe) (by omega) (by omega)]
  omega
/-! ### Coils -/
def coilE (a b c d : Int) : Int := if a < 1 ∨ a > 1000 ∨ b < 1 ∨ b > 1000 ∨ d < 1 ∨ d > 1000 ∨ c < 2 ∨ c > 20 then 2 else 0
theorem coilErr_eq (a b c d : Int) : m_61 [.agg [iD a, iD b, iD c, iD d]] = some (iD (coilE a b c d)) := by
  rw [m_61_eq]
  unfold coilErr_M coilE
  rw [within_eq a, within_eq b, within_eq c, within_eq d]
  simp only [pullB]
  repeat' split
  all_goals first
    | rfl
    | (simp only [decide_eq_false_iff_not] at *; exfalso; omega)
abbrev bkQ (a b c d : Int) : Rat := Rat.divInt (a * b * (c * c - 1)) (d * d * d)
theorem coil_nums {a b c d : Int} (h : coilE a b c d = 0) : IntKind.i64.wrap (IntKind.i64.wrap (a * b) * IntKind.i64.wrap (IntKind.i64.wrap (c * c) - 1)) = a * b * (c * c - 1) ∧ IntKind.i64.wrap (IntKind.i64.wrap (d * d) * d) = d * d * d ∧ 0 < d * d * d ∧ d * d * d < 9223372036854775808 ∧ (a * b * (c * c - 1)).natAbs < 9223372036854775808 := by
  unfold coilE at h
  split at h
  · cases h
  have a1 := mul2_le (show 0 ≤ a by omega) (show a ≤ 1000 by omega) (show 0 ≤ b by omega) (show b ≤ 1000 by omega)
  have a2 := sq_le (show 0 ≤ c by omega) (show c ≤ 20 by omega)
  have a3 : 4 ≤ c * c := by
    have := Int.mul_le_mul (show (2 : Int) ≤ c by omega) (show (2 : Int) ≤ c by omega) (by decide) (show 0 ≤ c by omega)
    omega
  have a4 := mul2_le a1.1 a1.2 (show 0 ≤ c * c - 1 by omega) (show c * c - 1 ≤ 400 by omega)
  have a5 := sq_le (show 0 ≤ d by omega) (show d ≤ 1000 by omega)
  have a6 := mul2_le a5.1 a5.2 (show 0 ≤ d by omega) (show d ≤ 1000 by omega)
  have a7 : 0 < d * d * d := Int.mul_pos (Int.mul_pos (by omega) (by omega)) (by omega)
  rw [wrapI (a * b) (by omega) (by omega), wrapI (c * c) (by omega) (by omega), wrapI (c * c - 1) (by omega) (by omega), wrapI (a * b * (c * c - 1)) (by omega) (by omega), wrapI (d * d) (by omega) (by omega), wrapI (d * d * d) (by omega) (by omega)]
  exact ⟨rfl, rfl, a7, by omega, by omega⟩
theorem buckling_eq (a b c d : Int) : m_60 [.agg [iD a, iD b, iD c, iD d]] = some (if coilE a b c d = 0 then .tup [.agg [iD (bkQ a b c d).num, iD ((bkQ a b c d).den : Int)], iD 0] else .tup [.agg [iD 0, iD 0], iD (coilE a b c d)]) := by
  rw [m_60_eq]
  unfold buckling_M
  unfold buckling_M_s0 buckling_M_s1 buckling_M_s2 buckling_M_s3
  simp only [f2, pullI, firstV, show (2 : Int) ≠ 0 by decide, if_true, if_false, not_true, not_false_iff, ne_eq]
  by_cases h : coilE a b c d = 0
  · obtain ⟨w1, w2, w3, w4, w5⟩ := coil_nums h
    rw [w1, w2, reduced_eq _ _ w3 w5 w4, pullD_some ((bkQ a b c d).num, ((bkQ a b c d).den : Int)) (by rfl) (by rfl)]
    rw [if_pos h]
    unfold coilE at h
    repeat' split
    all_goals first
      | rfl
      | (exfalso; revert h; split <;> omega)
  · have h2 : coilE a b c d = 2 := by
      unfold coilE at h ⊢
      split
      · rfl
      · rename_i g; rw [if_neg g] at h; exact absurd rfl h
    rw [if_neg h, h2]
    unfold coilE at h
    repeat' split
    all_goals first
      | rfl
      | (exfalso; exact h (if_neg (by omega)))
theorem bucklingR_eq {a b c d : Int} (h : coilE a b c d = 0) : m_62 [.agg [iD a, iD b, iD c, iD d]] = some (.agg [iD (bkQ a b c d).num, iD ((bkQ a b c d).den : Int)]) := by
  obtain ⟨w1, w2, w3, w4, w5⟩ := coil_nums h
  rw [m_62_eq]
  unfold bucklingR_M
  rw [w1, w2, lowest_eq _ _ w3 w5 w4, pullD_some ((bkQ a b c d).num, ((bkQ a b c d).den : Int)) (by rfl) (by rfl)]
end Go.Proofs.Ytlnolhhoakmdhaa
/- The law of clamps, whole. -/
namespace Go.Proofs.Ytlnolhhoakmdhaa
open Go.Ev Go.RowKit
set_option maxRecDepth 100000
set_option maxHeartbeats 4000000
theorem law11_eq (pa pb pc pd pe pf a b c d n m u ga gb gc gd : Int) : m_11 [cD pa pb pc pd pe pf, .agg [iD a, iD b, iD c, iD d, iD n, iD m, iD u], .agg [iD ga, iD gb, iD gc, iD gd]] = some (.one (.bool true)) := by
  rw [m_11_eq]
  unfold law11_M
  rw [m_13_eq, pullB, if_neg (by decide)]
  have q61 : m_61 [shNF4_0 ga gb gc gd] = _ := coilErr_eq ga gb gc gd
  have q63 : m_63 [shNF4_1 pa pb pc pd pe pf] = _ := clampErr_eq pa pb pc pd pe pf
  have q64 : m_64 [shNF4_1 pa pb pc pd pe pf] = some (.agg [iD (loC pa pd pf), iD (loC pb pc pe)]) := by rw [m_64_eq]; rfl
  have q42 : m_42 [shNF4_1 a b c d n m] = _ := faultErr_eq a b c d n m
  by_cases he : clampE pa pb pc pd pe pf = 0
  rotate_left
  · have he : clampE pa pb pc pd pe pf ≠ 0 := he
    have q58 : m_58 [shNF4_1 pa pb pc pd pe pf] = _ := clampedOf_bad he
    have q59 : m_59 [shNF4_1 pa pb pc pd pe pf, shNF4_1 a b c d n m, iD u] = _ := stays_bad1 a b c d n m u he
    rw [q58, pullD_some ((0 : Int), (0 : Int), clampE pa pb pc pd pe pf) (by rfl) (by rfl)]
    dsimp only
    rw [q59, pullD_some ((0 : Int), clampE pa pb pc pd pe pf) (by rfl) (by rfl)]
    dsimp only
    by_cases hc : coilE ga gb gc gd = 0
    · have q60 := buckling_eq ga gb gc gd
      rw [if_pos hc] at q60
      have q60 : m_60 [shNF4_0 ga gb gc gd] = _ := q60
      have q62 : m_62 [shNF4_0 ga gb gc gd] = _ := bucklingR_eq hc
      rw [q60, pullD_some ((bkQ ga gb gc gd).num, ((bkQ ga gb gc gd).den : Int), (0 : Int)) (by rfl) (by rfl)]
      dsimp only
      rw [q61, pullI, if_neg (by simp [hc])]
      unfold law11_M_s1
      rw [if_neg (by simp), q62, pullD_some ((bkQ ga gb gc gd).num, ((bkQ ga gb gc gd).den : Int)) (by rfl) (by rfl)]
      dsimp only
      rw [if_neg (by simp)]
      rw [q63, pullI, if_pos he, if_pos rfl, if_pos rfl, if_pos (by simp)]
      rfl
    · have q60 := buckling_eq ga gb gc gd
      rw [if_neg hc] at q60
      have q60 : m_60 [shNF4_0 ga gb gc gd] = _ := q60
      rw [q60, pullD_some ((0 : Int), (0 : Int), coilE ga gb gc gd) (by rfl) (by rfl)]
      dsimp only
      rw [q61, pullI, if_pos hc]
      unfold law11_M_s0
      rw [if_neg (by simp), if_neg (by simp)]
      rw [q63, pullI, if_pos he, if_pos rfl, if_pos rfl, if_pos (by simp)]
      rfl
  by_cases hu : useE a b c d n m u = 0
  rotate_left
  · have hu : useE a b c d n m u ≠ 0 := hu
    have q58 : m_58 [shNF4_1 pa pb pc pd pe pf] = _ := clampedOf_ok he
    have q59 : m_59 [shNF4_1 pa pb pc pd pe pf, shNF4_1 a b c d n m, iD u] = _ := stays_bad2 he hu
    rw [q58, pullD_some (loC pa pd pf, loC pb pc pe, (0 : Int)) (by rfl) (by rfl)]
    dsimp only
    rw [q59, pullD_some ((0 : Int), useE a b c d n m u) (by rfl) (by rfl)]
    dsimp only
    by_cases hc : coilE ga gb gc gd = 0
    · have q60 := buckling_eq ga gb gc gd
      rw [if_pos hc] at q60
      have q60 : m_60 [shNF4_0 ga gb gc gd] = _ := q60
      have q62 : m_62 [shNF4_0 ga gb gc gd] = _ := bucklingR_eq hc
      rw [q60, pullD_some ((bkQ ga gb gc gd).num, ((bkQ ga gb gc gd).den : Int), (0 : Int)) (by rfl) (by rfl)]
      dsimp only
      rw [q61, pullI, if_neg (by simp [hc])]
      unfold law11_M_s1
      rw [if_neg (by simp), q62, pullD_some ((bkQ ga gb gc gd).num, ((bkQ ga gb gc gd).den : Int)) (by rfl) (by rfl)]
      dsimp only
      rw [if_neg (by simp)]
      rw [q63, pullI, he, if_neg (by simp), if_neg (by simp), q64, pullD_some (loC pa pd pf, loC pb pc pe) (by rfl) (by rfl)]
      dsimp only
      rw [if_neg (by simp), q42, pullI]
      by_cases hf : faultE a b c d n m = 0
      · have e1 : useE a b c d n m u = rngE u 0 10000000 := by
          unfold useE
          simp only [firstV, hf, if_true]
          split <;> simp_all
        rw [if_pos hf, unitErr_eq, pullI, if_pos (by rw [← e1]; exact hu), if_pos e1]
        rfl
      · have e1 : useE a b c d n m u = faultE a b c d n m := by
          unfold useE
          simp only [firstV, hf, if_false]
        rw [if_neg hf, if_pos e1]
        rfl
    · have q60 := buckling_eq ga gb gc gd
      rw [if_neg hc] at q60
      have q60 : m_60 [shNF4_0 ga gb gc gd] = _ := q60
      rw [q60, pullD_some ((0 : Int), (0 : Int), coilE ga gb gc gd) (by rfl) (by rfl)]
      dsimp only
      rw [q61, pullI, if_pos hc]
      unfold law11_M_s0
      rw [if_neg (by simp), if_neg (by simp)]
      rw [q63, pullI, he, if_neg (by simp), if_neg (by simp), q64, pullD_some (loC pa pd pf, loC pb pc pe) (by rfl) (by rfl)]
      dsimp only
      rw [if_neg (by simp), q42, pullI]
      by_cases hf : faultE a b c d n m = 0
      · have e1 : useE a b c d n m u = rngE u 0 10000000 := by
          unfold useE
          simp only [firstV, hf, if_true]
          split <;> simp_all
        rw [if_pos hf, unitErr_eq, pullI, if_pos (by rw [← e1]; exact hu), if_pos e1]
        rfl
      · have e1 : useE a b c d n m u = faultE a b c d n m := by
          unfold useE
          simp only [firstV, hf, if_false]
        rw [if_neg hf, if_pos e1]
        rfl
  · skip
    have q58 : m_58 [shNF4_1 pa pb pc pd pe pf] = _ := clampedOf_ok he
    have q59 : m_59 [shNF4_1 pa pb pc pd pe pf, shNF4_1 a b c d n m, iD u] = _ := stays_ok he hu
    rw [q58, pullD_some (loC pa pd pf, loC pb pc pe, (0 : Int)) (by rfl) (by rfl)]
    dsimp only
    rw [q59, pullD_some (ansV (loC pa pd pf) (loC pb pc pe) u (loQ a d n m) (loQ b c n m), (0 : Int)) (by rfl) (by rfl)]
    dsimp only
    by_cases hc : coilE ga gb gc gd = 0
    · have q60 := buckling_eq ga gb gc gd
      rw [if_pos hc] at q60
      have q60 : m_60 [shNF4_0 ga gb gc gd] = _ := q60
      have q62 : m_62 [shNF4_0 ga gb gc gd] = _ := bucklingR_eq hc
      rw [q60, pullD_some ((bkQ ga gb gc gd).num, ((bkQ ga gb gc gd).den : Int), (0 : Int)) (by rfl) (by rfl)]
      dsimp only
      rw [q61, pullI, if_neg (by simp [hc])]
      unfold law11_M_s1
      rw [if_neg (by simp), q62, pullD_some ((bkQ ga gb gc gd).num, ((bkQ ga gb gc gd).den : Int)) (by rfl) (by rfl)]
      dsimp only
      rw [if_neg (by simp)]
      rw [q63, pullI, he, if_neg (by simp), if_neg (by simp), q64, pullD_some (loC pa pd pf, loC pb pc pe) (by rfl) (by rfl)]
      dsimp only
      obtain ⟨u1, u2, u3, u4⟩ := useE_ok hu
      obtain ⟨v1, v2⟩ := clamp_bounds he
      have q65 : m_65 [shNF4_1 pa pb pc pd pe pf, shNF4_1 a b c d n m, iD u] = _ := staysR_eq v1 v2 hu
      rw [if_neg (by simp), q42, pullI, if_pos u1, unitErr_eq, pullI, if_neg (by simp [u2]), if_pos rfl, q65, pullI]
      simp
    · have q60 := buckling_eq ga gb gc gd
      rw [if_neg hc] at q60
      have q60 : m_60 [shNF4_0 ga gb gc gd] = _ := q60
      rw [q60, pullD_some ((0 : Int), (0 : Int), coilE ga gb gc gd) (by rfl) (by rfl)]
      dsimp only
      rw [q61, pullI, if_pos hc]
      unfold law11_M_s0
      rw [if_neg (by simp), if_neg (by simp)]
      rw [q63, pullI, he, if_neg (by simp), if_neg (by simp), q64, pullD_some (loC pa pd pf, loC pb pc pe) (by rfl) (by rfl)]
      dsimp only
      obtain ⟨u1, u2, u3, u4⟩ := useE_ok hu
      obtain ⟨v1, v2⟩ := clamp_bounds he
      have q65 : m_65 [shNF4_1 pa pb pc pd pe pf, shNF4_1 a b c d n m, iD u] = _ := staysR_eq v1 v2 hu
      rw [if_neg (by simp), q42, pullI, if_pos u1, unitErr_eq, pullI, if_neg (by simp [u2]), if_pos rfl, q65, pullI]
      simp
theorem law11_con (pa pb pc pd pe pf a b c d n m u ga gb gc gd : Int) : Con 11 [cD pa pb pc pd pe pf, .agg [iD a, iD b, iD c, iD d, iD n, iD m, iD u], .agg [iD ga, iD gb, iD gc, iD gd]] (.one (.bool true)) := m_11_ok (law11_eq pa pb pc pd pe pf a b c d n m u ga gb gc gd)
end Go.Proofs.Ytlnolhhoakmdhaa
/- ForceClamps: what the runs give, for every argument. -/
namespace Go.Proofs.Ytlnolhhoakmdhaa.forceClamps
open Go.ChangeShapes Go.WideShapes Go.ChangeAt Go.RowKit Go.Joins Go.Ev
set_option maxRecDepth 100000 in
/-- WHAT THE RUNS GIVE, FOR EVERY ARGUMENT AND EVERY WORLD THAT HOLDS THE TABLES. -/
theorem contract (H : Type) (enc : TypeId × Value → H) (W : World) (base : Nat) (args : Array Value) (ds gs : List (DataW H)) (before : List MemPlace)
    (hval : ∀ (j : Nat) t v, Try.f11.params[j]? = some t → args[j]? = some v → Value.okWide Try.prog W .any base t v)
    (hW : DataW.Whole enc Try.prog Try.f11.params.toList Rows.forceClampsSpec.vars false W args.toList ds gs before) (hL : laidMetH Try.prog Rows.forceClampsRow.laid W) :
    Calls Try.prog 11 args W fun e W' => ∃ v, e = .returned v ∧ Rows.forceClampsSpec.post enc Try.prog Try.f11 false true false false W args v W' := by
  have hW' := hW
  have hlt := hW.lt
  obtain ⟨p, q, hA0, hV, rfl, hfz, hnd⟩ := hW
  have hA : DataW.TrodAll enc Try.prog W 0 (fun _ => true) true Try.f11.params.toList args.toList ds p := hA0
  rw [Try.params11] at hA hval
  obtain ⟨v0, vs0, d0, ds0, p0, q0, hargs, rfl, rfl, h0, r0⟩ := trodAll_cons hA
  obtain ⟨v1, vs1, d1, ds1, p1, q1, rfl, rfl, rfl, h1, r1⟩ := trodAll_cons r0
  obtain ⟨v2, vs2, d2, ds2, p2, q2, rfl, rfl, rfl, h2, r2⟩ := trodAll_cons r1
  obtain ⟨rfl, rfl, rfl⟩ := trodAll_nil r2
  obtain rfl : args = #[v0, v1, v2] := by cases args; simp_all
  obtain ⟨rfl, rfl⟩ := trodVars_none hV
  obtain ⟨e0, o0, k0⟩ := open_agg (ls := [.int .i64, .int .i64, .int .i64, .int .i64, .int .i64, .int .i64]) 8 (by kernel_rfl) (by kernel_rfl) (by kernel_rfl) (hval 0 95 v0 rfl rfl) h0
  obtain ⟨pa, pb, pc, pd, pe, pf, rfl⟩ := ints6_of o0
  obtain ⟨e1, o1, k1⟩ := open_agg (ls := [.int .i64, .int .i64, .int .i64, .int .i64, .int .i64, .int .i64, .int .i64]) 8 (by kernel_rfl) (by kernel_rfl) (by kernel_rfl) (hval 1 97 v1 rfl rfl) h1
  obtain ⟨a, b, c, d, n, m, u, rfl⟩ := ints7_of o1
  obtain ⟨e2, o2, k2⟩ := open_agg (ls := [.int .i64, .int .i64, .int .i64, .int .i64]) 8 (by kernel_rfl) (by kernel_rfl) (by kernel_rfl) (hval 2 99 v2 rfl rfl) h2
  obtain ⟨ga, gb, gc, gd, rfl⟩ := ints4_of o2
  have hr : RpL (fun _ => True) W [.agg [.one (.int .i64 pa), .one (.int .i64 pb), .one (.int .i64 pc), .one (.int .i64 pd), .one (.int .i64 pe), .one (.int .i64 pf)], .agg [.one (.int .i64 a), .one (.int .i64 b), .one (.int .i64 c), .one (.int .i64 d), .one (.int .i64 n), .one (.int .i64 m), .one (.int .i64 u)], .agg [.one (.int .i64 ga), .one (.int .i64 gb), .one (.int .i64 gc), .one (.int .i64 gd)]] [v0, v1, v2] := by
    simp only [RpL]
    exact ⟨v0, _, rfl, k0, ⟨v1, _, rfl, k1, ⟨v2, _, rfl, k2, rfl⟩⟩⟩
  refine (law11_con pa pb pc pd pe pf a b c d n m u ga gb gc gd W (fun _ => True) _ tabs0 hr).mono fun e W' ⟨v, he, hv, hg⟩ => ?_
  simp only [Rp] at hv
  subst he
  subst hv
  have hlaid : laidOutB Try.prog = true := by kernel_rfl
  exact ⟨_, rfl, post_below (pa := (p0 ++ (p1 ++ (p2 ++ [])))) (pv := []) hW' (fun _ _ _ => trodAll_cons_mk (shut_bool Try.underlying4 _) trodAll_mk0) (fun sp hsp => by
    rw [Try.params11]
    exact trodAll_cons_mk (stays hlaid (by kernel_rfl) (of_decide_eq_true (by kernel_rfl)) h0 hg (fun x hx => hlt x (by simp only [List.mem_append]; left; left; exact hx)) (fun x hx => hsp x (by simp only [List.mem_append]; left; left; exact hx))) (trodAll_cons_mk (stays hlaid (by kernel_rfl) (of_decide_eq_true (by kernel_rfl)) h1 hg (fun x hx => hlt x (by simp only [List.mem_append]; left; right; left; exact hx)) (fun x hx => hsp x (by simp only [List.mem_append]; left; right; left; exact hx))) (trodAll_cons_mk (stays hlaid (by kernel_rfl) (of_decide_eq_true (by kernel_rfl)) h2 hg (fun x hx => hlt x (by simp only [List.mem_append]; left; right; right; left; exact hx)) (fun x hx => hsp x (by simp only [List.mem_append]; left; right; right; left; exact hx))) (trodAll_mk0)))) (fun _ _ => rfl) rfl
    hg (ok_one (by kernel_rfl) rfl (okWide_bool_mk Try.underlying4 _))⟩
end Go.Proofs.Ytlnolhhoakmdhaa.forceClamps
/- ForceClamps: closed facts of the witness. -/
namespace Go.Proofs.Ytlnolhhoakmdhaa.forceClamps
open Go.ChangeShapes Go.WideShapes Go.ChangeAt Go.RowKit Go.Joins
/-- THE WITNESS's ARGUMENTS. -/
noncomputable def args0 : Array Value := #[.agg #[.int .i64 0, .int .i64 0, .int .i64 0, .int .i64 0, .int .i64 0, .int .i64 0], .agg #[.int .i64 0, .int .i64 0, .int .i64 0, .int .i64 0, .int .i64 0, .int .i64 0, .int .i64 0], .agg #[.int .i64 0, .int .i64 0, .int .i64 0, .int .i64 0]]
/-- A WORLD FOR THE WITNESS: the heap that the program's own initialisers leave. -/
noncomputable def start (os : Os) : World := World.doorLaid Try.prog 400 os
theorem laid_met (os : Os) : laidMet Try.prog Rows.forceClampsRow.laid ((start os).forCall (fun _ _ => 0) ⟨#[], args0, []⟩).memory := ⟨[], rfl, List.nodup_nil, fun _ _ h => by cases h⟩
theorem reads (os : Os) {H : Type} (enc : TypeId × Value → H) : ∃ places, DataW.whole enc Try.prog ((start os).forCall (fun _ _ => 0) ⟨#[], args0, []⟩).memory Try.f11.params.toList Rows.forceClampsSpec.vars false args0.toList 8 = some ([.agg [.agg [.lit (.int .i64 0), .lit (.int .i64 0)], .agg [.lit (.int .i64 0), .lit (.int .i64 0)], .agg [.lit (.int .i64 0), .lit (.int .i64 0)]], .agg [.agg [.agg [.lit (.int .i64 0), .lit (.int .i64 0)], .agg [.lit (.int .i64 0), .lit (.int .i64 0)], .agg [.lit (.int .i64 0), .lit (.int .i64 0)]], .lit (.int .i64 0)], .agg [.lit (.int .i64 0), .lit (.int .i64 0), .lit (.int .i64 0), .lit (.int .i64 0)]], [], places) :=
  ⟨[], by kernel_rfl⟩
theorem vB (os : Os) : ((start os).forCall (fun _ _ => 0) ⟨#[], args0, []⟩).variablesB Try.prog = true := by kernel_rfl
theorem rB (os : Os) : (((start os).forCall (fun _ _ => 0) ⟨#[], args0, []⟩).heap.toList.drop Try.prog.globals.size).take ((begin Try.prog (fun _ _ => 0) default).world.heap.size - Try.prog.globals.size) = (begin Try.prog (fun _ _ => 0) default).world.heap.toList.drop Try.prog.globals.size := by kernel_rfl
theorem oB (os : Os) : Input.okWideB Try.prog ((start os).forCall (fun _ _ => 0) ⟨#[], args0, []⟩) 11 ⟨#[], args0, []⟩ = true := by kernel_rfl
theorem hB (os : Os) : (start os).os = os := by kernel_rfl
end Go.Proofs.Ytlnolhhoakmdhaa.forceClamps
/- For any clamp, fault, unit force and coil, valid or not, the law ForceClamps of the program answers true, and its arguments read as they did. CONDITIONS: none. -/
namespace Go.Proofs.Ytlnolhhoakmdhaa.forceClamps
open Go.ChangeShapes Go.WideShapes Go.ChangeAt Go.RowKit Go.Joins
set_option maxRecDepth 100000 in
theorem lifted (os : Os) (started : os.Started) (H : Type) (enc : TypeId × Value → H) (F : Stop.Interp) :
    ReturnsInHanded {} Try.checked os 11 .any ((OpenSpec.ofChange Rows.forceClampsSpec).preRow enc Try.prog Try.f11 Rows.forceClampsRow.domain false Rows.forceClampsRow.laid) (((OpenSpec.ofChange Rows.forceClampsSpec).at F).post enc Try.prog Try.f11 false true false false) := by
  obtain ⟨places, hx⟩ := reads os enc
  refine returnsInHanded_of_row (C := Try.checked) (s := OpenSpec.ofChange Rows.forceClampsSpec) own started (by kernel_rfl) Try.func11
    (witness_row_at (enc := enc) (C := Try.checked) false (start os) args0 (hB os) (vB os) (rB os) (oB os)
      (OpenSpec.preRow_of_cond 8 hx (by kernel_rfl) (fun k hk => by cases hk) (by kernel_rfl) (laid_met os))) ?_
  intro W base args ds gs before hval hW _ _ _ hL _ _
  exact contract H enc W base args ds gs before hval hW hL
theorem said : Rows.ForceClampsSaid :=
  OpenClaim.holds_of_cond 11 Try.f11 rfl rfl rfl rfl rfl rfl rfl ⟨rfl, rfl, rfl, rfl, rfl⟩ rfl rfl rfl rfl rfl (by kernel_rfl) Try.func11 (by kernel_rfl)
    (of_decide_eq_true (by kernel_rfl)) (by unfold Func.isWrapper; first | (rw [if_pos (by decide +kernel)]; kernel_rfl) | (rw [if_neg (by decide +kernel)]; exact ⟨rfl, rfl⟩))
    (fun os started H enc _ F => by rw [OpenClaim.pre_eq_preRow]; exact lifted os started H enc F)
end Go.Proofs.Ytlnolhhoakmdhaa.forceClamps
