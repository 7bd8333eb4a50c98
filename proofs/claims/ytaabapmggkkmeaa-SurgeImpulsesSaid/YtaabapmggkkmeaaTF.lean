/- For any impulse and time, valid or not, the law SurgeImpulses of the program answers true, and its arguments read as they did. CONDITIONS: none. -/
import Derived.Test.YtaabapmggkkmeaaTD
import Derived.Test.YtaabapmggkkmeaaTE
import Derived.Test.YtaabapmggkkmeaaTA
set_option linter.unusedVariables false
set_option linter.unusedSimpArgs false
set_option linter.unusedSectionVars false
set_option linter.unnecessarySimpa false
namespace Go.Proofs.Ytaabapmggkkmeaa
open Go.Ev Go.RowKit
set_option maxRecDepth 100000
set_option maxHeartbeats 8000000
set_option linter.all false
noncomputable section
def floorR_sp : List LSpec := []
def floorR_M (n m : Int) : Option D := guardP (m ≠ (0 : Int)) ((if n.tmod m < (0 : Int) then some (iD (IntKind.i64.wrap (IntKind.i64.wrap (n.tdiv m) - (1 : Int)))) else some (iD (IntKind.i64.wrap (n.tdiv m)))))
theorem floorR_M_ok (n m : Int) {r : D} (h : floorR_M n m = some r) : Con 49 [iD n, iD m] r := by
  unfold floorR_M at h
  obtain ⟨f1_, h2_⟩ := guardP_elim h
  by_cases b3_ : n.tmod m < (0 : Int)
  · have h4_ := (if_pos b3_).symm.trans h2_
    obtain rfl := Option.some.inj h4_
    exact con_pc (op := true) (I := [49]) (sp := floorR_sp) 3000 (bT 1 []) [] [c_en f1_, c_en f1_, c_d b3_] [] (by kernel_rfl)
  have h4_ := (if_neg b3_).symm.trans h2_
  obtain rfl := Option.some.inj h4_
  exact con_pc (op := true) (I := [49]) (sp := floorR_sp) 3000 (bF 1 []) [] [c_en f1_, c_en f1_, c_n b3_] [] (by kernel_rfl)
def m_49 (ds : List D) : Option D := pullD (α := Int × Int) (some (.tup ds)) (fun d => ((D.vi (D.at d 0)), (D.vi (D.at d 1)))) (fun (n, m) => .tup [iD n, iD m]) fun (n, m) => floorR_M n m
theorem m_49_ok {ds : List D} {r : D} (h : m_49 ds = some r) : Con 49 ds r := by
  unfold m_49 at h
  obtain ⟨⟨n, m⟩, e0, h0⟩ := pullD_elim h
  obtain rfl := tup_inj e0
  exact floorR_M_ok n m h0
theorem m_49_eq (n m : Int) : m_49 [iD n, iD m] = floorR_M n m := pullD_some (n, m) rfl rfl
def fullImp_sp : List LSpec := []
def fullImp_M_s0 (pk fr tl : Int)  : Option D := (if fr < (1 : Int) then pullD (α := Int) (m_33 [.list 2 [iD (2 : Int), iD (2 : Int)]]) (fun d => ((D.vi d))) (fun r0 => iD r0) fun r0 => ((if r0 ≠ (0 : Int) then some (.tup [.agg [.list 0 []], iD r0]) else (if tl ≤ fr then some (.tup [.agg [.list 0 []], iD (9 : Int)]) else pullD (α := Int) (m_46 [iD pk, iD (2 : Int)]) (fun d => ((D.vi d))) (fun r1 => iD r1) fun r1 => (some (.tup [.agg [.list 4 [iD (0 : Int), iD (0 : Int), iD fr, iD pk, iD tl, iD r1, iD (IntKind.i64.wrap ((4 : Int) * tl)), iD (0 : Int)]], iD (0 : Int)]))))) else (if fr > (100000 : Int) then pullD (α := Int) (m_33 [.list 2 [iD (2 : Int), iD (2 : Int)]]) (fun d => ((D.vi d))) (fun r2 => iD r2) fun r2 => ((if r2 ≠ (0 : Int) then some (.tup [.agg [.list 0 []], iD r2]) else (if tl ≤ fr then some (.tup [.agg [.list 0 []], iD (9 : Int)]) else pullD (α := Int) (m_46 [iD pk, iD (2 : Int)]) (fun d => ((D.vi d))) (fun r3 => iD r3) fun r3 => (some (.tup [.agg [.list 4 [iD (0 : Int), iD (0 : Int), iD fr, iD pk, iD tl, iD r3, iD (IntKind.i64.wrap ((4 : Int) * tl)), iD (0 : Int)]], iD (0 : Int)]))))) else (if tl < (1 : Int) then pullD (α := Int) (m_33 [.list 2 [iD (2 : Int), iD (2 : Int)]]) (fun d => ((D.vi d))) (fun r4 => iD r4) fun r4 => ((if r4 ≠ (0 : Int) then some (.tup [.agg [.list 0 []], iD r4]) else (if tl ≤ fr then some (.tup [.agg [.list 0 []], iD (9 : Int)]) else pullD (α := Int) (m_46 [iD pk, iD (2 : Int)]) (fun d => ((D.vi d))) (fun r5 => iD r5) fun r5 => (some (.tup [.agg [.list 4 [iD (0 : Int), iD (0 : Int), iD fr, iD pk, iD tl, iD r5, iD (IntKind.i64.wrap ((4 : Int) * tl)), iD (0 : Int)]], iD (0 : Int)]))))) else (if tl > (100000 : Int) then pullD (α := Int) (m_33 [.list 2 [iD (2 : Int), iD (2 : Int)]]) (fun d => ((D.vi d))) (fun r6 => iD r6) fun r6 => ((if r6 ≠ (0 : Int) then some (.tup [.agg [.list 0 []], iD r6]) else (if tl ≤ fr then some (.tup [.agg [.list 0 []], iD (9 : Int)]) else pullD (α := Int) (m_46 [iD pk, iD (2 : Int)]) (fun d => ((D.vi d))) (fun r7 => iD r7) fun r7 => (some (.tup [.agg [.list 4 [iD (0 : Int), iD (0 : Int), iD fr, iD pk, iD tl, iD r7, iD (IntKind.i64.wrap ((4 : Int) * tl)), iD (0 : Int)]], iD (0 : Int)]))))) else pullD (α := Int) (m_33 [.list 2 [iD (2 : Int), iD (0 : Int)]]) (fun d => ((D.vi d))) (fun r8 => iD r8) fun r8 => ((if r8 ≠ (0 : Int) then some (.tup [.agg [.list 0 []], iD r8]) else (if tl ≤ fr then some (.tup [.agg [.list 0 []], iD (9 : Int)]) else pullD (α := Int) (m_46 [iD pk, iD (2 : Int)]) (fun d => ((D.vi d))) (fun r9 => iD r9) fun r9 => (some (.tup [.agg [.list 4 [iD (0 : Int), iD (0 : Int), iD fr, iD pk, iD tl, iD r9, iD (IntKind.i64.wrap ((4 : Int) * tl)), iD (0 : Int)]], iD (0 : Int)])))))))))
def fullImp_M_s1 (pk fr tl : Int)  : Option D := (if fr < (1 : Int) then pullD (α := Int) (m_33 [.list 2 [iD (2 : Int), iD (2 : Int)]]) (fun d => ((D.vi d))) (fun r10 => iD r10) fun r10 => ((if r10 ≠ (0 : Int) then some (.tup [.agg [.list 0 []], iD r10]) else (if tl ≤ fr then some (.tup [.agg [.list 0 []], iD (9 : Int)]) else pullD (α := Int) (m_46 [iD pk, iD (2 : Int)]) (fun d => ((D.vi d))) (fun r11 => iD r11) fun r11 => (some (.tup [.agg [.list 4 [iD (0 : Int), iD (0 : Int), iD fr, iD pk, iD tl, iD r11, iD (IntKind.i64.wrap ((4 : Int) * tl)), iD (0 : Int)]], iD (0 : Int)]))))) else (if fr > (100000 : Int) then pullD (α := Int) (m_33 [.list 2 [iD (2 : Int), iD (2 : Int)]]) (fun d => ((D.vi d))) (fun r12 => iD r12) fun r12 => ((if r12 ≠ (0 : Int) then some (.tup [.agg [.list 0 []], iD r12]) else (if tl ≤ fr then some (.tup [.agg [.list 0 []], iD (9 : Int)]) else pullD (α := Int) (m_46 [iD pk, iD (2 : Int)]) (fun d => ((D.vi d))) (fun r13 => iD r13) fun r13 => (some (.tup [.agg [.list 4 [iD (0 : Int), iD (0 : Int), iD fr, iD pk, iD tl, iD r13, iD (IntKind.i64.wrap ((4 : Int) * tl)), iD (0 : Int)]], iD (0 : Int)]))))) else (if tl < (1 : Int) then pullD (α := Int) (m_33 [.list 2 [iD (2 : Int), iD (2 : Int)]]) (fun d => ((D.vi d))) (fun r14 => iD r14) fun r14 => ((if r14 ≠ (0 : Int) then some (.tup [.agg [.list 0 []], iD r14]) else (if tl ≤ fr then some (.tup [.agg [.list 0 []], iD (9 : Int)]) else pullD (α := Int) (m_46 [iD pk, iD (2 : Int)]) (fun d => ((D.vi d))) (fun r15 => iD r15) fun r15 => (some (.tup [.agg [.list 4 [iD (0 : Int), iD (0 : Int), iD fr, iD pk, iD tl, iD r15, iD (IntKind.i64.wrap ((4 : Int) * tl)), iD (0 : Int)]], iD (0 : Int)]))))) else (if tl > (100000 : Int) then pullD (α := Int) (m_33 [.list 2 [iD (2 : Int), iD (2 : Int)]]) (fun d => ((D.vi d))) (fun r16 => iD r16) fun r16 => ((if r16 ≠ (0 : Int) then some (.tup [.agg [.list 0 []], iD r16]) else (if tl ≤ fr then some (.tup [.agg [.list 0 []], iD (9 : Int)]) else pullD (α := Int) (m_46 [iD pk, iD (2 : Int)]) (fun d => ((D.vi d))) (fun r17 => iD r17) fun r17 => (some (.tup [.agg [.list 4 [iD (0 : Int), iD (0 : Int), iD fr, iD pk, iD tl, iD r17, iD (IntKind.i64.wrap ((4 : Int) * tl)), iD (0 : Int)]], iD (0 : Int)]))))) else pullD (α := Int) (m_33 [.list 2 [iD (2 : Int), iD (0 : Int)]]) (fun d => ((D.vi d))) (fun r18 => iD r18) fun r18 => ((if r18 ≠ (0 : Int) then some (.tup [.agg [.list 0 []], iD r18]) else (if tl ≤ fr then some (.tup [.agg [.list 0 []], iD (9 : Int)]) else pullD (α := Int) (m_46 [iD pk, iD (2 : Int)]) (fun d => ((D.vi d))) (fun r19 => iD r19) fun r19 => (some (.tup [.agg [.list 4 [iD (0 : Int), iD (0 : Int), iD fr, iD pk, iD tl, iD r19, iD (IntKind.i64.wrap ((4 : Int) * tl)), iD (0 : Int)]], iD (0 : Int)])))))))))
def fullImp_M_s2 (pk fr tl : Int)  : Option D := (if fr < (1 : Int) then pullD (α := Int) (m_33 [.list 2 [iD (0 : Int), iD (2 : Int)]]) (fun d => ((D.vi d))) (fun r20 => iD r20) fun r20 => ((if r20 ≠ (0 : Int) then some (.tup [.agg [.list 0 []], iD r20]) else (if tl ≤ fr then some (.tup [.agg [.list 0 []], iD (9 : Int)]) else pullD (α := Int) (m_46 [iD pk, iD (2 : Int)]) (fun d => ((D.vi d))) (fun r21 => iD r21) fun r21 => (some (.tup [.agg [.list 4 [iD (0 : Int), iD (0 : Int), iD fr, iD pk, iD tl, iD r21, iD (IntKind.i64.wrap ((4 : Int) * tl)), iD (0 : Int)]], iD (0 : Int)]))))) else (if fr > (100000 : Int) then pullD (α := Int) (m_33 [.list 2 [iD (0 : Int), iD (2 : Int)]]) (fun d => ((D.vi d))) (fun r22 => iD r22) fun r22 => ((if r22 ≠ (0 : Int) then some (.tup [.agg [.list 0 []], iD r22]) else (if tl ≤ fr then some (.tup [.agg [.list 0 []], iD (9 : Int)]) else pullD (α := Int) (m_46 [iD pk, iD (2 : Int)]) (fun d => ((D.vi d))) (fun r23 => iD r23) fun r23 => (some (.tup [.agg [.list 4 [iD (0 : Int), iD (0 : Int), iD fr, iD pk, iD tl, iD r23, iD (IntKind.i64.wrap ((4 : Int) * tl)), iD (0 : Int)]], iD (0 : Int)]))))) else (if tl < (1 : Int) then pullD (α := Int) (m_33 [.list 2 [iD (0 : Int), iD (2 : Int)]]) (fun d => ((D.vi d))) (fun r24 => iD r24) fun r24 => ((if r24 ≠ (0 : Int) then some (.tup [.agg [.list 0 []], iD r24]) else (if tl ≤ fr then some (.tup [.agg [.list 0 []], iD (9 : Int)]) else pullD (α := Int) (m_46 [iD pk, iD (2 : Int)]) (fun d => ((D.vi d))) (fun r25 => iD r25) fun r25 => (some (.tup [.agg [.list 4 [iD (0 : Int), iD (0 : Int), iD fr, iD pk, iD tl, iD r25, iD (IntKind.i64.wrap ((4 : Int) * tl)), iD (0 : Int)]], iD (0 : Int)]))))) else (if tl > (100000 : Int) then pullD (α := Int) (m_33 [.list 2 [iD (0 : Int), iD (2 : Int)]]) (fun d => ((D.vi d))) (fun r26 => iD r26) fun r26 => ((if r26 ≠ (0 : Int) then some (.tup [.agg [.list 0 []], iD r26]) else (if tl ≤ fr then some (.tup [.agg [.list 0 []], iD (9 : Int)]) else pullD (α := Int) (m_46 [iD pk, iD (2 : Int)]) (fun d => ((D.vi d))) (fun r27 => iD r27) fun r27 => (some (.tup [.agg [.list 4 [iD (0 : Int), iD (0 : Int), iD fr, iD pk, iD tl, iD r27, iD (IntKind.i64.wrap ((4 : Int) * tl)), iD (0 : Int)]], iD (0 : Int)]))))) else pullD (α := Int) (m_33 [.list 2 [iD (0 : Int), iD (0 : Int)]]) (fun d => ((D.vi d))) (fun r28 => iD r28) fun r28 => ((if r28 ≠ (0 : Int) then some (.tup [.agg [.list 0 []], iD r28]) else (if tl ≤ fr then some (.tup [.agg [.list 0 []], iD (9 : Int)]) else pullD (α := Int) (m_46 [iD pk, iD (2 : Int)]) (fun d => ((D.vi d))) (fun r29 => iD r29) fun r29 => (some (.tup [.agg [.list 4 [iD (0 : Int), iD (0 : Int), iD fr, iD pk, iD tl, iD r29, iD (IntKind.i64.wrap ((4 : Int) * tl)), iD (0 : Int)]], iD (0 : Int)])))))))))
def fullImp_M (pk fr tl : Int) : Option D := (if pk < IntKind.i64.wrap ((0 : Int) - (1000000 : Int)) then fullImp_M_s0 pk fr tl else (if pk > (1000000 : Int) then fullImp_M_s1 pk fr tl else fullImp_M_s2 pk fr tl))
theorem fullImp_M_s0_ok (pk fr tl : Int)  (b1_ : pk < IntKind.i64.wrap ((0 : Int) - (1000000 : Int))) {r : D} (h : fullImp_M_s0 pk fr tl = some r) : Con 18 [iD pk, iD fr, iD tl] r := by
  unfold fullImp_M_s0 at h
  by_cases bq1_ : fr < (1 : Int)
  · have hq2_ := (if_pos bq1_).symm.trans h
    obtain ⟨r0, fq3_, hq4_⟩ := pullD_elim hq2_
    replace fq3_ := m_33_ok fq3_
    by_cases bq5_ : r0 ≠ (0 : Int)
    · have hq6_ := (if_pos bq5_).symm.trans hq4_
      obtain rfl := Option.some.inj hq6_
      exact con_pc (op := true) (I := [18, 35, 34, 60]) (sp := fullImp_sp) 3000 (bT 13 []) [iD r0] [c_T, c_d b1_, c_d b1_, c_d b1_, c_d b1_, c_T, c_T, c_d bq1_, c_d bq1_, c_d bq1_, c_d bq1_, c_T, c_le 1, c_b bq5_] [k_c fq3_] (by kernel_rfl)
    have hq6_ := (if_neg bq5_).symm.trans hq4_
    have bq7_ : r0 = (0 : Int) := by first | exact bq5_ | simpa using bq5_
    by_cases bq8_ : tl ≤ fr
    · have hq9_ := (if_pos bq8_).symm.trans hq6_
      obtain rfl := Option.some.inj hq9_
      exact con_pc (op := true) (I := [18, 35, 34, 60]) (sp := fullImp_sp) 3000 (bT 12 (bF 1 (bT 1 []))) [iD r0] [c_T, c_d b1_, c_d b1_, c_d b1_, c_d b1_, c_T, c_T, c_d bq1_, c_d bq1_, c_d bq1_, c_d bq1_, c_T, c_le 1, c_bn bq7_, c_d bq8_] [k_c fq3_] (by kernel_rfl)
    have hq9_ := (if_neg bq8_).symm.trans hq6_
    obtain ⟨r1, fq10_, hq11_⟩ := pullD_elim hq9_
    replace fq10_ := m_46_ok fq10_
    obtain rfl := Option.some.inj hq11_
    exact con_pc (op := true) (I := [18, 35, 34, 60]) (sp := fullImp_sp) 3000 (bT 12 (bF 2 [])) [iD r0, iD r1] [c_T, c_d b1_, c_d b1_, c_d b1_, c_d b1_, c_T, c_T, c_d bq1_, c_d bq1_, c_d bq1_, c_d bq1_, c_T, c_le 1, c_bn bq7_, c_n bq8_, c_le 3] [k_c fq3_, k_c fq10_] (by kernel_rfl)
  have hq2_ := (if_neg bq1_).symm.trans h
  by_cases bq12_ : fr > (100000 : Int)
  · have hq13_ := (if_pos bq12_).symm.trans hq2_
    obtain ⟨r2, fq14_, hq15_⟩ := pullD_elim hq13_
    replace fq14_ := m_33_ok fq14_
    by_cases bq16_ : r2 ≠ (0 : Int)
    · have hq17_ := (if_pos bq16_).symm.trans hq15_
      obtain rfl := Option.some.inj hq17_
      exact con_pc (op := true) (I := [18, 35, 34, 60]) (sp := fullImp_sp) 3000 (bT 7 (bF 4 (bT 2 []))) [iD r2] [c_T, c_d b1_, c_d b1_, c_d b1_, c_d b1_, c_T, c_T, c_n bq1_, c_n bq1_, c_n bq1_, c_n bq1_, c_d bq12_, c_le 1, c_b bq16_] [k_c fq14_] (by kernel_rfl)
    have hq17_ := (if_neg bq16_).symm.trans hq15_
    have bq18_ : r2 = (0 : Int) := by first | exact bq16_ | simpa using bq16_
    by_cases bq19_ : tl ≤ fr
    · have hq20_ := (if_pos bq19_).symm.trans hq17_
      obtain rfl := Option.some.inj hq20_
      exact con_pc (op := true) (I := [18, 35, 34, 60]) (sp := fullImp_sp) 3000 (bT 7 (bF 4 (bT 1 (bF 1 (bT 1 []))))) [iD r2] [c_T, c_d b1_, c_d b1_, c_d b1_, c_d b1_, c_T, c_T, c_n bq1_, c_n bq1_, c_n bq1_, c_n bq1_, c_d bq12_, c_le 1, c_bn bq18_, c_d bq19_] [k_c fq14_] (by kernel_rfl)
    have hq20_ := (if_neg bq19_).symm.trans hq17_
    obtain ⟨r3, fq21_, hq22_⟩ := pullD_elim hq20_
    replace fq21_ := m_46_ok fq21_
    obtain rfl := Option.some.inj hq22_
    exact con_pc (op := true) (I := [18, 35, 34, 60]) (sp := fullImp_sp) 3000 (bT 7 (bF 4 (bT 1 (bF 2 [])))) [iD r2, iD r3] [c_T, c_d b1_, c_d b1_, c_d b1_, c_d b1_, c_T, c_T, c_n bq1_, c_n bq1_, c_n bq1_, c_n bq1_, c_d bq12_, c_le 1, c_bn bq18_, c_n bq19_, c_le 3] [k_c fq14_, k_c fq21_] (by kernel_rfl)
  have hq13_ := (if_neg bq12_).symm.trans hq2_
  by_cases bq23_ : tl < (1 : Int)
  · have hq24_ := (if_pos bq23_).symm.trans hq13_
    obtain ⟨r4, fq25_, hq26_⟩ := pullD_elim hq24_
    replace fq25_ := m_33_ok fq25_
    by_cases bq27_ : r4 ≠ (0 : Int)
    · have hq28_ := (if_pos bq27_).symm.trans hq26_
      obtain rfl := Option.some.inj hq28_
      exact con_pc (op := true) (I := [18, 35, 34, 60]) (sp := fullImp_sp) 3000 (bT 7 (bF 5 (bT 7 []))) [iD r4] [c_T, c_d b1_, c_d b1_, c_d b1_, c_d b1_, c_T, c_T, c_n bq1_, c_n bq1_, c_n bq1_, c_n bq1_, c_n bq12_, c_T, c_d bq23_, c_d bq23_, c_d bq23_, c_d bq23_, c_T, c_le 1, c_b bq27_] [k_c fq25_] (by kernel_rfl)
    have hq28_ := (if_neg bq27_).symm.trans hq26_
    have bq29_ : r4 = (0 : Int) := by first | exact bq27_ | simpa using bq27_
    by_cases bq30_ : tl ≤ fr
    · have hq31_ := (if_pos bq30_).symm.trans hq28_
      obtain rfl := Option.some.inj hq31_
      exact con_pc (op := true) (I := [18, 35, 34, 60]) (sp := fullImp_sp) 3000 (bT 7 (bF 5 (bT 6 (bF 1 (bT 1 []))))) [iD r4] [c_T, c_d b1_, c_d b1_, c_d b1_, c_d b1_, c_T, c_T, c_n bq1_, c_n bq1_, c_n bq1_, c_n bq1_, c_n bq12_, c_T, c_d bq23_, c_d bq23_, c_d bq23_, c_d bq23_, c_T, c_le 1, c_bn bq29_, c_d bq30_] [k_c fq25_] (by kernel_rfl)
    have hq31_ := (if_neg bq30_).symm.trans hq28_
    obtain ⟨r5, fq32_, hq33_⟩ := pullD_elim hq31_
    replace fq32_ := m_46_ok fq32_
    obtain rfl := Option.some.inj hq33_
    exact con_pc (op := true) (I := [18, 35, 34, 60]) (sp := fullImp_sp) 3000 (bT 7 (bF 5 (bT 6 (bF 2 [])))) [iD r4, iD r5] [c_T, c_d b1_, c_d b1_, c_d b1_, c_d b1_, c_T, c_T, c_n bq1_, c_n bq1_, c_n bq1_, c_n bq1_, c_n bq12_, c_T, c_d bq23_, c_d bq23_, c_d bq23_, c_d bq23_, c_T, c_le 1, c_bn bq29_, c_n bq30_, c_le 3] [k_c fq25_, k_c fq32_] (by kernel_rfl)
  have hq24_ := (if_neg bq23_).symm.trans hq13_
  by_cases bq34_ : tl > (100000 : Int)
  · have hq35_ := (if_pos bq34_).symm.trans hq24_
    obtain ⟨r6, fq36_, hq37_⟩ := pullD_elim hq35_
    replace fq36_ := m_33_ok fq36_
    by_cases bq38_ : r6 ≠ (0 : Int)
    · have hq39_ := (if_pos bq38_).symm.trans hq37_
      obtain rfl := Option.some.inj hq39_
      exact con_pc (op := true) (I := [18, 35, 34, 60]) (sp := fullImp_sp) 3000 (bT 7 (bF 5 (bT 1 (bF 4 (bT 2 []))))) [iD r6] [c_T, c_d b1_, c_d b1_, c_d b1_, c_d b1_, c_T, c_T, c_n bq1_, c_n bq1_, c_n bq1_, c_n bq1_, c_n bq12_, c_T, c_n bq23_, c_n bq23_, c_n bq23_, c_n bq23_, c_d bq34_, c_le 1, c_b bq38_] [k_c fq36_] (by kernel_rfl)
    have hq39_ := (if_neg bq38_).symm.trans hq37_
    have bq40_ : r6 = (0 : Int) := by first | exact bq38_ | simpa using bq38_
    by_cases bq41_ : tl ≤ fr
    · have hq42_ := (if_pos bq41_).symm.trans hq39_
      obtain rfl := Option.some.inj hq42_
      exact con_pc (op := true) (I := [18, 35, 34, 60]) (sp := fullImp_sp) 3000 (bT 7 (bF 5 (bT 1 (bF 4 (bT 1 (bF 1 (bT 1 []))))))) [iD r6] [c_T, c_d b1_, c_d b1_, c_d b1_, c_d b1_, c_T, c_T, c_n bq1_, c_n bq1_, c_n bq1_, c_n bq1_, c_n bq12_, c_T, c_n bq23_, c_n bq23_, c_n bq23_, c_n bq23_, c_d bq34_, c_le 1, c_bn bq40_, c_d bq41_] [k_c fq36_] (by kernel_rfl)
    have hq42_ := (if_neg bq41_).symm.trans hq39_
    obtain ⟨r7, fq43_, hq44_⟩ := pullD_elim hq42_
    replace fq43_ := m_46_ok fq43_
    obtain rfl := Option.some.inj hq44_
    exact con_pc (op := true) (I := [18, 35, 34, 60]) (sp := fullImp_sp) 3000 (bT 7 (bF 5 (bT 1 (bF 4 (bT 1 (bF 2 [])))))) [iD r6, iD r7] [c_T, c_d b1_, c_d b1_, c_d b1_, c_d b1_, c_T, c_T, c_n bq1_, c_n bq1_, c_n bq1_, c_n bq1_, c_n bq12_, c_T, c_n bq23_, c_n bq23_, c_n bq23_, c_n bq23_, c_d bq34_, c_le 1, c_bn bq40_, c_n bq41_, c_le 3] [k_c fq36_, k_c fq43_] (by kernel_rfl)
  have hq35_ := (if_neg bq34_).symm.trans hq24_
  obtain ⟨r8, fq45_, hq46_⟩ := pullD_elim hq35_
  replace fq45_ := m_33_ok fq45_
  by_cases bq47_ : r8 ≠ (0 : Int)
  · have hq48_ := (if_pos bq47_).symm.trans hq46_
    obtain rfl := Option.some.inj hq48_
    exact con_pc (op := true) (I := [18, 35, 34, 60]) (sp := fullImp_sp) 3000 (bT 7 (bF 5 (bT 1 (bF 6 (bT 1 []))))) [iD r8] [c_T, c_d b1_, c_d b1_, c_d b1_, c_d b1_, c_T, c_T, c_n bq1_, c_n bq1_, c_n bq1_, c_n bq1_, c_n bq12_, c_T, c_n bq23_, c_n bq23_, c_n bq23_, c_n bq23_, c_n bq34_, c_F, c_le 1, c_b bq47_] [k_c fq45_] (by kernel_rfl)
  have hq48_ := (if_neg bq47_).symm.trans hq46_
  have bq49_ : r8 = (0 : Int) := by first | exact bq47_ | simpa using bq47_
  by_cases bq50_ : tl ≤ fr
  · have hq51_ := (if_pos bq50_).symm.trans hq48_
    obtain rfl := Option.some.inj hq51_
    exact con_pc (op := true) (I := [18, 35, 34, 60]) (sp := fullImp_sp) 3000 (bT 7 (bF 5 (bT 1 (bF 7 (bT 1 []))))) [iD r8] [c_T, c_d b1_, c_d b1_, c_d b1_, c_d b1_, c_T, c_T, c_n bq1_, c_n bq1_, c_n bq1_, c_n bq1_, c_n bq12_, c_T, c_n bq23_, c_n bq23_, c_n bq23_, c_n bq23_, c_n bq34_, c_F, c_le 1, c_bn bq49_, c_d bq50_] [k_c fq45_] (by kernel_rfl)
  have hq51_ := (if_neg bq50_).symm.trans hq48_
  obtain ⟨r9, fq52_, hq53_⟩ := pullD_elim hq51_
  replace fq52_ := m_46_ok fq52_
  obtain rfl := Option.some.inj hq53_
  exact con_pc (op := true) (I := [18, 35, 34, 60]) (sp := fullImp_sp) 3000 (bT 7 (bF 5 (bT 1 (bF 8 [])))) [iD r8, iD r9] [c_T, c_d b1_, c_d b1_, c_d b1_, c_d b1_, c_T, c_T, c_n bq1_, c_n bq1_, c_n bq1_, c_n bq1_, c_n bq12_, c_T, c_n bq23_, c_n bq23_, c_n bq23_, c_n bq23_, c_n bq34_, c_F, c_le 1, c_bn bq49_, c_n bq50_, c_le 3] [k_c fq45_, k_c fq52_] (by kernel_rfl)
theorem fullImp_M_s1_ok (pk fr tl : Int)  (b1_ : ¬ (pk < IntKind.i64.wrap ((0 : Int) - (1000000 : Int)))) (b3_ : pk > (1000000 : Int)) {r : D} (h : fullImp_M_s1 pk fr tl = some r) : Con 18 [iD pk, iD fr, iD tl] r := by
  unfold fullImp_M_s1 at h
  by_cases bq1_ : fr < (1 : Int)
  · have hq2_ := (if_pos bq1_).symm.trans h
    obtain ⟨r10, fq3_, hq4_⟩ := pullD_elim hq2_
    replace fq3_ := m_33_ok fq3_
    by_cases bq5_ : r10 ≠ (0 : Int)
    · have hq6_ := (if_pos bq5_).symm.trans hq4_
      obtain rfl := Option.some.inj hq6_
      exact con_pc (op := true) (I := [18, 35, 34, 60]) (sp := fullImp_sp) 3000 (bT 1 (bF 4 (bT 8 []))) [iD r10] [c_T, c_n b1_, c_n b1_, c_n b1_, c_n b1_, c_d b3_, c_T, c_d bq1_, c_d bq1_, c_d bq1_, c_d bq1_, c_T, c_le 1, c_b bq5_] [k_c fq3_] (by kernel_rfl)
    have hq6_ := (if_neg bq5_).symm.trans hq4_
    have bq7_ : r10 = (0 : Int) := by first | exact bq5_ | simpa using bq5_
    by_cases bq8_ : tl ≤ fr
    · have hq9_ := (if_pos bq8_).symm.trans hq6_
      obtain rfl := Option.some.inj hq9_
      exact con_pc (op := true) (I := [18, 35, 34, 60]) (sp := fullImp_sp) 3000 (bT 1 (bF 4 (bT 7 (bF 1 (bT 1 []))))) [iD r10] [c_T, c_n b1_, c_n b1_, c_n b1_, c_n b1_, c_d b3_, c_T, c_d bq1_, c_d bq1_, c_d bq1_, c_d bq1_, c_T, c_le 1, c_bn bq7_, c_d bq8_] [k_c fq3_] (by kernel_rfl)
    have hq9_ := (if_neg bq8_).symm.trans hq6_
    obtain ⟨r11, fq10_, hq11_⟩ := pullD_elim hq9_
    replace fq10_ := m_46_ok fq10_
    obtain rfl := Option.some.inj hq11_
    exact con_pc (op := true) (I := [18, 35, 34, 60]) (sp := fullImp_sp) 3000 (bT 1 (bF 4 (bT 7 (bF 2 [])))) [iD r10, iD r11] [c_T, c_n b1_, c_n b1_, c_n b1_, c_n b1_, c_d b3_, c_T, c_d bq1_, c_d bq1_, c_d bq1_, c_d bq1_, c_T, c_le 1, c_bn bq7_, c_n bq8_, c_le 3] [k_c fq3_, k_c fq10_] (by kernel_rfl)
  have hq2_ := (if_neg bq1_).symm.trans h
  by_cases bq12_ : fr > (100000 : Int)
  · have hq13_ := (if_pos bq12_).symm.trans hq2_
    obtain ⟨r12, fq14_, hq15_⟩ := pullD_elim hq13_
    replace fq14_ := m_33_ok fq14_
    by_cases bq16_ : r12 ≠ (0 : Int)
    · have hq17_ := (if_pos bq16_).symm.trans hq15_
      obtain rfl := Option.some.inj hq17_
      exact con_pc (op := true) (I := [18, 35, 34, 60]) (sp := fullImp_sp) 3000 (bT 1 (bF 4 (bT 2 (bF 4 (bT 2 []))))) [iD r12] [c_T, c_n b1_, c_n b1_, c_n b1_, c_n b1_, c_d b3_, c_T, c_n bq1_, c_n bq1_, c_n bq1_, c_n bq1_, c_d bq12_, c_le 1, c_b bq16_] [k_c fq14_] (by kernel_rfl)
    have hq17_ := (if_neg bq16_).symm.trans hq15_
    have bq18_ : r12 = (0 : Int) := by first | exact bq16_ | simpa using bq16_
    by_cases bq19_ : tl ≤ fr
    · have hq20_ := (if_pos bq19_).symm.trans hq17_
      obtain rfl := Option.some.inj hq20_
      exact con_pc (op := true) (I := [18, 35, 34, 60]) (sp := fullImp_sp) 3000 (bT 1 (bF 4 (bT 2 (bF 4 (bT 1 (bF 1 (bT 1 []))))))) [iD r12] [c_T, c_n b1_, c_n b1_, c_n b1_, c_n b1_, c_d b3_, c_T, c_n bq1_, c_n bq1_, c_n bq1_, c_n bq1_, c_d bq12_, c_le 1, c_bn bq18_, c_d bq19_] [k_c fq14_] (by kernel_rfl)
    have hq20_ := (if_neg bq19_).symm.trans hq17_
    obtain ⟨r13, fq21_, hq22_⟩ := pullD_elim hq20_
    replace fq21_ := m_46_ok fq21_
    obtain rfl := Option.some.inj hq22_
    exact con_pc (op := true) (I := [18, 35, 34, 60]) (sp := fullImp_sp) 3000 (bT 1 (bF 4 (bT 2 (bF 4 (bT 1 (bF 2 [])))))) [iD r12, iD r13] [c_T, c_n b1_, c_n b1_, c_n b1_, c_n b1_, c_d b3_, c_T, c_n bq1_, c_n bq1_, c_n bq1_, c_n bq1_, c_d bq12_, c_le 1, c_bn bq18_, c_n bq19_, c_le 3] [k_c fq14_, k_c fq21_] (by kernel_rfl)
  have hq13_ := (if_neg bq12_).symm.trans hq2_
  by_cases bq23_ : tl < (1 : Int)
  · have hq24_ := (if_pos bq23_).symm.trans hq13_
    obtain ⟨r14, fq25_, hq26_⟩ := pullD_elim hq24_
    replace fq25_ := m_33_ok fq25_
    by_cases bq27_ : r14 ≠ (0 : Int)
    · have hq28_ := (if_pos bq27_).symm.trans hq26_
      obtain rfl := Option.some.inj hq28_
      exact con_pc (op := true) (I := [18, 35, 34, 60]) (sp := fullImp_sp) 3000 (bT 1 (bF 4 (bT 2 (bF 5 (bT 7 []))))) [iD r14] [c_T, c_n b1_, c_n b1_, c_n b1_, c_n b1_, c_d b3_, c_T, c_n bq1_, c_n bq1_, c_n bq1_, c_n bq1_, c_n bq12_, c_T, c_d bq23_, c_d bq23_, c_d bq23_, c_d bq23_, c_T, c_le 1, c_b bq27_] [k_c fq25_] (by kernel_rfl)
    have hq28_ := (if_neg bq27_).symm.trans hq26_
    have bq29_ : r14 = (0 : Int) := by first | exact bq27_ | simpa using bq27_
    by_cases bq30_ : tl ≤ fr
    · have hq31_ := (if_pos bq30_).symm.trans hq28_
      obtain rfl := Option.some.inj hq31_
      exact con_pc (op := true) (I := [18, 35, 34, 60]) (sp := fullImp_sp) 3000 (bT 1 (bF 4 (bT 2 (bF 5 (bT 6 (bF 1 (bT 1 []))))))) [iD r14] [c_T, c_n b1_, c_n b1_, c_n b1_, c_n b1_, c_d b3_, c_T, c_n bq1_, c_n bq1_, c_n bq1_, c_n bq1_, c_n bq12_, c_T, c_d bq23_, c_d bq23_, c_d bq23_, c_d bq23_, c_T, c_le 1, c_bn bq29_, c_d bq30_] [k_c fq25_] (by kernel_rfl)
    have hq31_ := (if_neg bq30_).symm.trans hq28_
    obtain ⟨r15, fq32_, hq33_⟩ := pullD_elim hq31_
    replace fq32_ := m_46_ok fq32_
    obtain rfl := Option.some.inj hq33_
    exact con_pc (op := true) (I := [18, 35, 34, 60]) (sp := fullImp_sp) 3000 (bT 1 (bF 4 (bT 2 (bF 5 (bT 6 (bF 2 [])))))) [iD r14, iD r15] [c_T, c_n b1_, c_n b1_, c_n b1_, c_n b1_, c_d b3_, c_T, c_n bq1_, c_n bq1_, c_n bq1_, c_n bq1_, c_n bq12_, c_T, c_d bq23_, c_d bq23_, c_d bq23_, c_d bq23_, c_T, c_le 1, c_bn bq29_, c_n bq30_, c_le 3] [k_c fq25_, k_c fq32_] (by kernel_rfl)
  have hq24_ := (if_neg bq23_).symm.trans hq13_
  by_cases bq34_ : tl > (100000 : Int)
  · have hq35_ := (if_pos bq34_).symm.trans hq24_
    obtain ⟨r16, fq36_, hq37_⟩ := pullD_elim hq35_
    replace fq36_ := m_33_ok fq36_
    by_cases bq38_ : r16 ≠ (0 : Int)
    · have hq39_ := (if_pos bq38_).symm.trans hq37_
      obtain rfl := Option.some.inj hq39_
      exact con_pc (op := true) (I := [18, 35, 34, 60]) (sp := fullImp_sp) 3000 (bT 1 (bF 4 (bT 2 (bF 5 (bT 1 (bF 4 (bT 2 []))))))) [iD r16] [c_T, c_n b1_, c_n b1_, c_n b1_, c_n b1_, c_d b3_, c_T, c_n bq1_, c_n bq1_, c_n bq1_, c_n bq1_, c_n bq12_, c_T, c_n bq23_, c_n bq23_, c_n bq23_, c_n bq23_, c_d bq34_, c_le 1, c_b bq38_] [k_c fq36_] (by kernel_rfl)
    have hq39_ := (if_neg bq38_).symm.trans hq37_
    have bq40_ : r16 = (0 : Int) := by first | exact bq38_ | simpa using bq38_
    by_cases bq41_ : tl ≤ fr
    · have hq42_ := (if_pos bq41_).symm.trans hq39_
      obtain rfl := Option.some.inj hq42_
      exact con_pc (op := true) (I := [18, 35, 34, 60]) (sp := fullImp_sp) 3000 (bT 1 (bF 4 (bT 2 (bF 5 (bT 1 (bF 4 (bT 1 (bF 1 (bT 1 []))))))))) [iD r16] [c_T, c_n b1_, c_n b1_, c_n b1_, c_n b1_, c_d b3_, c_T, c_n bq1_, c_n bq1_, c_n bq1_, c_n bq1_, c_n bq12_, c_T, c_n bq23_, c_n bq23_, c_n bq23_, c_n bq23_, c_d bq34_, c_le 1, c_bn bq40_, c_d bq41_] [k_c fq36_] (by kernel_rfl)
    have hq42_ := (if_neg bq41_).symm.trans hq39_
    obtain ⟨r17, fq43_, hq44_⟩ := pullD_elim hq42_
    replace fq43_ := m_46_ok fq43_
    obtain rfl := Option.some.inj hq44_
    exact con_pc (op := true) (I := [18, 35, 34, 60]) (sp := fullImp_sp) 3000 (bT 1 (bF 4 (bT 2 (bF 5 (bT 1 (bF 4 (bT 1 (bF 2 [])))))))) [iD r16, iD r17] [c_T, c_n b1_, c_n b1_, c_n b1_, c_n b1_, c_d b3_, c_T, c_n bq1_, c_n bq1_, c_n bq1_, c_n bq1_, c_n bq12_, c_T, c_n bq23_, c_n bq23_, c_n bq23_, c_n bq23_, c_d bq34_, c_le 1, c_bn bq40_, c_n bq41_, c_le 3] [k_c fq36_, k_c fq43_] (by kernel_rfl)
  have hq35_ := (if_neg bq34_).symm.trans hq24_
  obtain ⟨r18, fq45_, hq46_⟩ := pullD_elim hq35_
  replace fq45_ := m_33_ok fq45_
  by_cases bq47_ : r18 ≠ (0 : Int)
  · have hq48_ := (if_pos bq47_).symm.trans hq46_
    obtain rfl := Option.some.inj hq48_
    exact con_pc (op := true) (I := [18, 35, 34, 60]) (sp := fullImp_sp) 3000 (bT 1 (bF 4 (bT 2 (bF 5 (bT 1 (bF 6 (bT 1 []))))))) [iD r18] [c_T, c_n b1_, c_n b1_, c_n b1_, c_n b1_, c_d b3_, c_T, c_n bq1_, c_n bq1_, c_n bq1_, c_n bq1_, c_n bq12_, c_T, c_n bq23_, c_n bq23_, c_n bq23_, c_n bq23_, c_n bq34_, c_F, c_le 1, c_b bq47_] [k_c fq45_] (by kernel_rfl)
  have hq48_ := (if_neg bq47_).symm.trans hq46_
  have bq49_ : r18 = (0 : Int) := by first | exact bq47_ | simpa using bq47_
  by_cases bq50_ : tl ≤ fr
  · have hq51_ := (if_pos bq50_).symm.trans hq48_
    obtain rfl := Option.some.inj hq51_
    exact con_pc (op := true) (I := [18, 35, 34, 60]) (sp := fullImp_sp) 3000 (bT 1 (bF 4 (bT 2 (bF 5 (bT 1 (bF 7 (bT 1 []))))))) [iD r18] [c_T, c_n b1_, c_n b1_, c_n b1_, c_n b1_, c_d b3_, c_T, c_n bq1_, c_n bq1_, c_n bq1_, c_n bq1_, c_n bq12_, c_T, c_n bq23_, c_n bq23_, c_n bq23_, c_n bq23_, c_n bq34_, c_F, c_le 1, c_bn bq49_, c_d bq50_] [k_c fq45_] (by kernel_rfl)
  have hq51_ := (if_neg bq50_).symm.trans hq48_
  obtain ⟨r19, fq52_, hq53_⟩ := pullD_elim hq51_
  replace fq52_ := m_46_ok fq52_
  obtain rfl := Option.some.inj hq53_
  exact con_pc (op := true) (I := [18, 35, 34, 60]) (sp := fullImp_sp) 3000 (bT 1 (bF 4 (bT 2 (bF 5 (bT 1 (bF 8 [])))))) [iD r18, iD r19] [c_T, c_n b1_, c_n b1_, c_n b1_, c_n b1_, c_d b3_, c_T, c_n bq1_, c_n bq1_, c_n bq1_, c_n bq1_, c_n bq12_, c_T, c_n bq23_, c_n bq23_, c_n bq23_, c_n bq23_, c_n bq34_, c_F, c_le 1, c_bn bq49_, c_n bq50_, c_le 3] [k_c fq45_, k_c fq52_] (by kernel_rfl)
theorem fullImp_M_s2_ok (pk fr tl : Int)  (b1_ : ¬ (pk < IntKind.i64.wrap ((0 : Int) - (1000000 : Int)))) (b3_ : ¬ (pk > (1000000 : Int))) {r : D} (h : fullImp_M_s2 pk fr tl = some r) : Con 18 [iD pk, iD fr, iD tl] r := by
  unfold fullImp_M_s2 at h
  by_cases bq1_ : fr < (1 : Int)
  · have hq2_ := (if_pos bq1_).symm.trans h
    obtain ⟨r20, fq3_, hq4_⟩ := pullD_elim hq2_
    replace fq3_ := m_33_ok fq3_
    by_cases bq5_ : r20 ≠ (0 : Int)
    · have hq6_ := (if_pos bq5_).symm.trans hq4_
      obtain rfl := Option.some.inj hq6_
      exact con_pc (op := true) (I := [18, 35, 34, 60]) (sp := fullImp_sp) 3000 (bT 1 (bF 6 (bT 7 []))) [iD r20] [c_T, c_n b1_, c_n b1_, c_n b1_, c_n b1_, c_n b3_, c_F, c_T, c_d bq1_, c_d bq1_, c_d bq1_, c_d bq1_, c_T, c_le 1, c_b bq5_] [k_c fq3_] (by kernel_rfl)
    have hq6_ := (if_neg bq5_).symm.trans hq4_
    have bq7_ : r20 = (0 : Int) := by first | exact bq5_ | simpa using bq5_
    by_cases bq8_ : tl ≤ fr
    · have hq9_ := (if_pos bq8_).symm.trans hq6_
      obtain rfl := Option.some.inj hq9_
      exact con_pc (op := true) (I := [18, 35, 34, 60]) (sp := fullImp_sp) 3000 (bT 1 (bF 6 (bT 6 (bF 1 (bT 1 []))))) [iD r20] [c_T, c_n b1_, c_n b1_, c_n b1_, c_n b1_, c_n b3_, c_F, c_T, c_d bq1_, c_d bq1_, c_d bq1_, c_d bq1_, c_T, c_le 1, c_bn bq7_, c_d bq8_] [k_c fq3_] (by kernel_rfl)
    have hq9_ := (if_neg bq8_).symm.trans hq6_
    obtain ⟨r21, fq10_, hq11_⟩ := pullD_elim hq9_
    replace fq10_ := m_46_ok fq10_
    obtain rfl := Option.some.inj hq11_
    exact con_pc (op := true) (I := [18, 35, 34, 60]) (sp := fullImp_sp) 3000 (bT 1 (bF 6 (bT 6 (bF 2 [])))) [iD r20, iD r21] [c_T, c_n b1_, c_n b1_, c_n b1_, c_n b1_, c_n b3_, c_F, c_T, c_d bq1_, c_d bq1_, c_d bq1_, c_d bq1_, c_T, c_le 1, c_bn bq7_, c_n bq8_, c_le 3] [k_c fq3_, k_c fq10_] (by kernel_rfl)
  have hq2_ := (if_neg bq1_).symm.trans h
  by_cases bq12_ : fr > (100000 : Int)
  · have hq13_ := (if_pos bq12_).symm.trans hq2_
    obtain ⟨r22, fq14_, hq15_⟩ := pullD_elim hq13_
    replace fq14_ := m_33_ok fq14_
    by_cases bq16_ : r22 ≠ (0 : Int)
    · have hq17_ := (if_pos bq16_).symm.trans hq15_
      obtain rfl := Option.some.inj hq17_
      exact con_pc (op := true) (I := [18, 35, 34, 60]) (sp := fullImp_sp) 3000 (bT 1 (bF 6 (bT 1 (bF 4 (bT 2 []))))) [iD r22] [c_T, c_n b1_, c_n b1_, c_n b1_, c_n b1_, c_n b3_, c_F, c_T, c_n bq1_, c_n bq1_, c_n bq1_, c_n bq1_, c_d bq12_, c_le 1, c_b bq16_] [k_c fq14_] (by kernel_rfl)
    have hq17_ := (if_neg bq16_).symm.trans hq15_
    have bq18_ : r22 = (0 : Int) := by first | exact bq16_ | simpa using bq16_
    by_cases bq19_ : tl ≤ fr
    · have hq20_ := (if_pos bq19_).symm.trans hq17_
      obtain rfl := Option.some.inj hq20_
      exact con_pc (op := true) (I := [18, 35, 34, 60]) (sp := fullImp_sp) 3000 (bT 1 (bF 6 (bT 1 (bF 4 (bT 1 (bF 1 (bT 1 []))))))) [iD r22] [c_T, c_n b1_, c_n b1_, c_n b1_, c_n b1_, c_n b3_, c_F, c_T, c_n bq1_, c_n bq1_, c_n bq1_, c_n bq1_, c_d bq12_, c_le 1, c_bn bq18_, c_d bq19_] [k_c fq14_] (by kernel_rfl)
    have hq20_ := (if_neg bq19_).symm.trans hq17_
    obtain ⟨r23, fq21_, hq22_⟩ := pullD_elim hq20_
    replace fq21_ := m_46_ok fq21_
    obtain rfl := Option.some.inj hq22_
    exact con_pc (op := true) (I := [18, 35, 34, 60]) (sp := fullImp_sp) 3000 (bT 1 (bF 6 (bT 1 (bF 4 (bT 1 (bF 2 [])))))) [iD r22, iD r23] [c_T, c_n b1_, c_n b1_, c_n b1_, c_n b1_, c_n b3_, c_F, c_T, c_n bq1_, c_n bq1_, c_n bq1_, c_n bq1_, c_d bq12_, c_le 1, c_bn bq18_, c_n bq19_, c_le 3] [k_c fq14_, k_c fq21_] (by kernel_rfl)
  have hq13_ := (if_neg bq12_).symm.trans hq2_
  by_cases bq23_ : tl < (1 : Int)
  · have hq24_ := (if_pos bq23_).symm.trans hq13_
    obtain ⟨r24, fq25_, hq26_⟩ := pullD_elim hq24_
    replace fq25_ := m_33_ok fq25_
    by_cases bq27_ : r24 ≠ (0 : Int)
    · have hq28_ := (if_pos bq27_).symm.trans hq26_
      obtain rfl := Option.some.inj hq28_
      exact con_pc (op := true) (I := [18, 35, 34, 60]) (sp := fullImp_sp) 3000 (bT 1 (bF 6 (bT 1 (bF 5 (bT 7 []))))) [iD r24] [c_T, c_n b1_, c_n b1_, c_n b1_, c_n b1_, c_n b3_, c_F, c_T, c_n bq1_, c_n bq1_, c_n bq1_, c_n bq1_, c_n bq12_, c_T, c_d bq23_, c_d bq23_, c_d bq23_, c_d bq23_, c_T, c_le 1, c_b bq27_] [k_c fq25_] (by kernel_rfl)
    have hq28_ := (if_neg bq27_).symm.trans hq26_
    have bq29_ : r24 = (0 : Int) := by first | exact bq27_ | simpa using bq27_
    by_cases bq30_ : tl ≤ fr
    · have hq31_ := (if_pos bq30_).symm.trans hq28_
      obtain rfl := Option.some.inj hq31_
      exact con_pc (op := true) (I := [18, 35, 34, 60]) (sp := fullImp_sp) 3000 (bT 1 (bF 6 (bT 1 (bF 5 (bT 6 (bF 1 (bT 1 []))))))) [iD r24] [c_T, c_n b1_, c_n b1_, c_n b1_, c_n b1_, c_n b3_, c_F, c_T, c_n bq1_, c_n bq1_, c_n bq1_, c_n bq1_, c_n bq12_, c_T, c_d bq23_, c_d bq23_, c_d bq23_, c_d bq23_, c_T, c_le 1, c_bn bq29_, c_d bq30_] [k_c fq25_] (by kernel_rfl)
    have hq31_ := (if_neg bq30_).symm.trans hq28_
    obtain ⟨r25, fq32_, hq33_⟩ := pullD_elim hq31_
    replace fq32_ := m_46_ok fq32_
    obtain rfl := Option.some.inj hq33_
    exact con_pc (op := true) (I := [18, 35, 34, 60]) (sp := fullImp_sp) 3000 (bT 1 (bF 6 (bT 1 (bF 5 (bT 6 (bF 2 [])))))) [iD r24, iD r25] [c_T, c_n b1_, c_n b1_, c_n b1_, c_n b1_, c_n b3_, c_F, c_T, c_n bq1_, c_n bq1_, c_n bq1_, c_n bq1_, c_n bq12_, c_T, c_d bq23_, c_d bq23_, c_d bq23_, c_d bq23_, c_T, c_le 1, c_bn bq29_, c_n bq30_, c_le 3] [k_c fq25_, k_c fq32_] (by kernel_rfl)
  have hq24_ := (if_neg bq23_).symm.trans hq13_
  by_cases bq34_ : tl > (100000 : Int)
  · have hq35_ := (if_pos bq34_).symm.trans hq24_
    obtain ⟨r26, fq36_, hq37_⟩ := pullD_elim hq35_
    replace fq36_ := m_33_ok fq36_
    by_cases bq38_ : r26 ≠ (0 : Int)
    · have hq39_ := (if_pos bq38_).symm.trans hq37_
      obtain rfl := Option.some.inj hq39_
      exact con_pc (op := true) (I := [18, 35, 34, 60]) (sp := fullImp_sp) 3000 (bT 1 (bF 6 (bT 1 (bF 5 (bT 1 (bF 4 (bT 2 []))))))) [iD r26] [c_T, c_n b1_, c_n b1_, c_n b1_, c_n b1_, c_n b3_, c_F, c_T, c_n bq1_, c_n bq1_, c_n bq1_, c_n bq1_, c_n bq12_, c_T, c_n bq23_, c_n bq23_, c_n bq23_, c_n bq23_, c_d bq34_, c_le 1, c_b bq38_] [k_c fq36_] (by kernel_rfl)
    have hq39_ := (if_neg bq38_).symm.trans hq37_
    have bq40_ : r26 = (0 : Int) := by first | exact bq38_ | simpa using bq38_
    by_cases bq41_ : tl ≤ fr
    · have hq42_ := (if_pos bq41_).symm.trans hq39_
      obtain rfl := Option.some.inj hq42_
      exact con_pc (op := true) (I := [18, 35, 34, 60]) (sp := fullImp_sp) 3000 (bT 1 (bF 6 (bT 1 (bF 5 (bT 1 (bF 4 (bT 1 (bF 1 (bT 1 []))))))))) [iD r26] [c_T, c_n b1_, c_n b1_, c_n b1_, c_n b1_, c_n b3_, c_F, c_T, c_n bq1_, c_n bq1_, c_n bq1_, c_n bq1_, c_n bq12_, c_T, c_n bq23_, c_n bq23_, c_n bq23_, c_n bq23_, c_d bq34_, c_le 1, c_bn bq40_, c_d bq41_] [k_c fq36_] (by kernel_rfl)
    have hq42_ := (if_neg bq41_).symm.trans hq39_
    obtain ⟨r27, fq43_, hq44_⟩ := pullD_elim hq42_
    replace fq43_ := m_46_ok fq43_
    obtain rfl := Option.some.inj hq44_
    exact con_pc (op := true) (I := [18, 35, 34, 60]) (sp := fullImp_sp) 3000 (bT 1 (bF 6 (bT 1 (bF 5 (bT 1 (bF 4 (bT 1 (bF 2 [])))))))) [iD r26, iD r27] [c_T, c_n b1_, c_n b1_, c_n b1_, c_n b1_, c_n b3_, c_F, c_T, c_n bq1_, c_n bq1_, c_n bq1_, c_n bq1_, c_n bq12_, c_T, c_n bq23_, c_n bq23_, c_n bq23_, c_n bq23_, c_d bq34_, c_le 1, c_bn bq40_, c_n bq41_, c_le 3] [k_c fq36_, k_c fq43_] (by kernel_rfl)
  have hq35_ := (if_neg bq34_).symm.trans hq24_
  obtain ⟨r28, fq45_, hq46_⟩ := pullD_elim hq35_
  replace fq45_ := m_33_ok fq45_
  by_cases bq47_ : r28 ≠ (0 : Int)
  · have hq48_ := (if_pos bq47_).symm.trans hq46_
    obtain rfl := Option.some.inj hq48_
    exact con_pc (op := true) (I := [18, 35, 34, 60]) (sp := fullImp_sp) 3000 (bT 1 (bF 6 (bT 1 (bF 5 (bT 1 (bF 6 (bT 1 []))))))) [iD r28] [c_T, c_n b1_, c_n b1_, c_n b1_, c_n b1_, c_n b3_, c_F, c_T, c_n bq1_, c_n bq1_, c_n bq1_, c_n bq1_, c_n bq12_, c_T, c_n bq23_, c_n bq23_, c_n bq23_, c_n bq23_, c_n bq34_, c_F, c_le 1, c_b bq47_] [k_c fq45_] (by kernel_rfl)
  have hq48_ := (if_neg bq47_).symm.trans hq46_
  have bq49_ : r28 = (0 : Int) := by first | exact bq47_ | simpa using bq47_
  by_cases bq50_ : tl ≤ fr
  · have hq51_ := (if_pos bq50_).symm.trans hq48_
    obtain rfl := Option.some.inj hq51_
    exact con_pc (op := true) (I := [18, 35, 34, 60]) (sp := fullImp_sp) 3000 (bT 1 (bF 6 (bT 1 (bF 5 (bT 1 (bF 7 (bT 1 []))))))) [iD r28] [c_T, c_n b1_, c_n b1_, c_n b1_, c_n b1_, c_n b3_, c_F, c_T, c_n bq1_, c_n bq1_, c_n bq1_, c_n bq1_, c_n bq12_, c_T, c_n bq23_, c_n bq23_, c_n bq23_, c_n bq23_, c_n bq34_, c_F, c_le 1, c_bn bq49_, c_d bq50_] [k_c fq45_] (by kernel_rfl)
  have hq51_ := (if_neg bq50_).symm.trans hq48_
  obtain ⟨r29, fq52_, hq53_⟩ := pullD_elim hq51_
  replace fq52_ := m_46_ok fq52_
  obtain rfl := Option.some.inj hq53_
  exact con_pc (op := true) (I := [18, 35, 34, 60]) (sp := fullImp_sp) 3000 (bT 1 (bF 6 (bT 1 (bF 5 (bT 1 (bF 8 [])))))) [iD r28, iD r29] [c_T, c_n b1_, c_n b1_, c_n b1_, c_n b1_, c_n b3_, c_F, c_T, c_n bq1_, c_n bq1_, c_n bq1_, c_n bq1_, c_n bq12_, c_T, c_n bq23_, c_n bq23_, c_n bq23_, c_n bq23_, c_n bq34_, c_F, c_le 1, c_bn bq49_, c_n bq50_, c_le 3] [k_c fq45_, k_c fq52_] (by kernel_rfl)
theorem fullImp_M_ok (pk fr tl : Int) {r : D} (h : fullImp_M pk fr tl = some r) : Con 18 [iD pk, iD fr, iD tl] r := by
  unfold fullImp_M at h
  by_cases b1_ : pk < IntKind.i64.wrap ((0 : Int) - (1000000 : Int))
  · have h2_ := (if_pos b1_).symm.trans h
    exact fullImp_M_s0_ok pk fr tl b1_ h2_
  have h2_ := (if_neg b1_).symm.trans h
  by_cases b3_ : pk > (1000000 : Int)
  · have h4_ := (if_pos b3_).symm.trans h2_
    exact fullImp_M_s1_ok pk fr tl b1_ b3_ h4_
  have h4_ := (if_neg b3_).symm.trans h2_
  exact fullImp_M_s2_ok pk fr tl b1_ b3_ h4_
def m_18 (ds : List D) : Option D := pullD (α := Int × Int × Int) (some (.tup ds)) (fun d => ((D.vi (D.at d 0)), (D.vi (D.at d 1)), (D.vi (D.at d 2)))) (fun (pk, fr, tl) => .tup [iD pk, iD fr, iD tl]) fun (pk, fr, tl) => fullImp_M pk fr tl
theorem m_18_ok {ds : List D} {r : D} (h : m_18 ds = some r) : Con 18 ds r := by
  unfold m_18 at h
  obtain ⟨⟨pk, fr, tl⟩, e0, h0⟩ := pullD_elim h
  obtain rfl := tup_inj e0
  exact fullImp_M_ok pk fr tl h0
theorem m_18_eq (pk fr tl : Int) : m_18 [iD pk, iD fr, iD tl] = fullImp_M pk fr tl := pullD_some (pk, fr, tl) rfl rfl
def fullR_sp : List LSpec := []
def fullR_M (pk fr tl : Int) : Option D := pullD (α := Bool) (m_14 [iD pk, iD (-1000000 : Int), iD (1000000 : Int)]) (fun d => ((D.vb d))) (fun r0 => .one (.bool r0)) fun r0 => ((if r0 = false then some (.tup [.agg [.list 0 []], iD (2 : Int)]) else pullD (α := Bool) (m_14 [iD fr, iD (1 : Int), iD (100000 : Int)]) (fun d => ((D.vb d))) (fun r1 => .one (.bool r1)) fun r1 => ((if r1 = false then some (.tup [.agg [.list 0 []], iD (2 : Int)]) else pullD (α := Bool) (m_14 [iD tl, iD (1 : Int), iD (100000 : Int)]) (fun d => ((D.vb d))) (fun r2 => .one (.bool r2)) fun r2 => ((if r2 = false then some (.tup [.agg [.list 0 []], iD (2 : Int)]) else (if tl ≤ fr then some (.tup [.agg [.list 0 []], iD (9 : Int)]) else pullD (α := Int) (m_49 [iD pk, iD (2 : Int)]) (fun d => ((D.vi d))) (fun r3 => iD r3) fun r3 => (some (.tup [.agg [.list 4 [iD (0 : Int), iD (0 : Int), iD fr, iD pk, iD tl, iD r3, iD (IntKind.i64.wrap ((4 : Int) * tl)), iD (0 : Int)]], iD (0 : Int)])))))))))
theorem fullR_M_ok (pk fr tl : Int) {r : D} (h : fullR_M pk fr tl = some r) : Con 20 [iD pk, iD fr, iD tl] r := by
  unfold fullR_M at h
  obtain ⟨r0, f1_, h2_⟩ := pullD_elim h
  replace f1_ := m_14_ok f1_
  by_cases b3_ : r0 = false
  · have h4_ := (if_pos b3_).symm.trans h2_
    obtain rfl := Option.some.inj h4_
    exact con_pc (op := true) (I := [20]) (sp := fullR_sp) 3000 (bT 9 []) [.one (.bool r0)] [c_no b3_, c_no b3_, c_no b3_, c_no b3_, c_T, c_T, c_T, c_T, c_T] [k_c f1_] (by kernel_rfl)
  have h4_ := (if_neg b3_).symm.trans h2_
  have b5_ : r0 = true := by first | exact b3_ | simpa using b3_
  obtain ⟨r1, f6_, h7_⟩ := pullD_elim h4_
  replace f6_ := m_14_ok f6_
  by_cases b8_ : r1 = false
  · have h9_ := (if_pos b8_).symm.trans h7_
    obtain rfl := Option.some.inj h9_
    exact con_pc (op := true) (I := [20]) (sp := fullR_sp) 3000 (bF 4 (bT 5 [])) [.one (.bool r0), .one (.bool r1)] [c_nn b5_, c_nn b5_, c_nn b5_, c_nn b5_, c_no b8_, c_no b8_, c_no b8_, c_no b8_, c_T] [k_c f1_, k_c f6_] (by kernel_rfl)
  have h9_ := (if_neg b8_).symm.trans h7_
  have b10_ : r1 = true := by first | exact b8_ | simpa using b8_
  obtain ⟨r2, f11_, h12_⟩ := pullD_elim h9_
  replace f11_ := m_14_ok f11_
  by_cases b13_ : r2 = false
  · have h14_ := (if_pos b13_).symm.trans h12_
    obtain rfl := Option.some.inj h14_
    exact con_pc (op := true) (I := [20]) (sp := fullR_sp) 3000 (bF 8 (bT 1 [])) [.one (.bool r0), .one (.bool r1), .one (.bool r2)] [c_nn b5_, c_nn b5_, c_nn b5_, c_nn b5_, c_nn b10_, c_nn b10_, c_nn b10_, c_nn b10_, c_no b13_] [k_c f1_, k_c f6_, k_c f11_] (by kernel_rfl)
  have h14_ := (if_neg b13_).symm.trans h12_
  have b15_ : r2 = true := by first | exact b13_ | simpa using b13_
  by_cases b16_ : tl ≤ fr
  · have h17_ := (if_pos b16_).symm.trans h14_
    obtain rfl := Option.some.inj h17_
    exact con_pc (op := true) (I := [20]) (sp := fullR_sp) 3000 (bF 9 (bT 1 [])) [.one (.bool r0), .one (.bool r1), .one (.bool r2)] [c_nn b5_, c_nn b5_, c_nn b5_, c_nn b5_, c_nn b10_, c_nn b10_, c_nn b10_, c_nn b10_, c_nn b15_, c_d b16_] [k_c f1_, k_c f6_, k_c f11_] (by kernel_rfl)
  have h17_ := (if_neg b16_).symm.trans h14_
  obtain ⟨r3, f18_, h19_⟩ := pullD_elim h17_
  replace f18_ := m_49_ok f18_
  obtain rfl := Option.some.inj h19_
  exact con_pc (op := true) (I := [20]) (sp := fullR_sp) 3000 (bF 10 []) [.one (.bool r0), .one (.bool r1), .one (.bool r2), iD r3] [c_nn b5_, c_nn b5_, c_nn b5_, c_nn b5_, c_nn b10_, c_nn b10_, c_nn b10_, c_nn b10_, c_nn b15_, c_n b16_, c_le 3] [k_c f1_, k_c f6_, k_c f11_, k_c f18_] (by kernel_rfl)
def m_20 (ds : List D) : Option D := pullD (α := Int × Int × Int) (some (.tup ds)) (fun d => ((D.vi (D.at d 0)), (D.vi (D.at d 1)), (D.vi (D.at d 2)))) (fun (pk, fr, tl) => .tup [iD pk, iD fr, iD tl]) fun (pk, fr, tl) => fullR_M pk fr tl
theorem m_20_ok {ds : List D} {r : D} (h : m_20 ds = some r) : Con 20 ds r := by
  unfold m_20 at h
  obtain ⟨⟨pk, fr, tl⟩, e0, h0⟩ := pullD_elim h
  obtain rfl := tup_inj e0
  exact fullR_M_ok pk fr tl h0
theorem m_20_eq (pk fr tl : Int) : m_20 [iD pk, iD fr, iD tl] = fullR_M pk fr tl := pullD_some (pk, fr, tl) rfl rfl
def sameImp_x4_0 : LExit := ⟨some 0, [], (4 :: (5 :: (List.range' 13 18)))⟩
def sameImp_x4_1 : LExit := ⟨none, [.val 4], (5 :: (List.range' 13 18))⟩
def sameImp_sp : List LSpec := [⟨21, 4, [sameImp_x4_0, sameImp_x4_1]⟩]
def sameImp_L4_E (ka : Nat) (ca : List D) (kb : Nat) (cb : List D)  : List AV × AHeap := ([.agg [.dsl 0], .agg [.dsl 1], .ptr 2 0, .ptr 3 0, .pure (.bool false), .pure (.int .i64 (0 : Int)), .ptr 2 0, .dsl 0, .pure (.int .i64 (ka : Int)), .ptr 3 0, .dsl 1, .pure (.int .i64 (kb : Int)), .pure (.bool ((ka : Int) != (kb : Int))), .pure (.tuple #[]), .pure (.tuple #[]), .pure (.tuple #[]), .pure (.tuple #[]), .pure (.tuple #[]), .pure (.tuple #[]), .pure (.tuple #[]), .pure (.tuple #[]), .pure (.tuple #[]), .pure (.tuple #[]), .pure (.tuple #[]), .pure (.tuple #[]), .pure (.tuple #[]), .pure (.tuple #[]), .pure (.tuple #[]), .pure (.tuple #[]), .pure (.tuple #[]), .pure (.tuple #[])], [(3, { cells := [.dsl 1], opn := none, kind := .cells }), (2, { cells := [.dsl 0], opn := none, kind := .cells }), (1, { cells := [], opn := none, kind := .deep kb cb }), (0, { cells := [], opn := none, kind := .deep ka ca })])
def sameImp_L4_A : LoopAt := ⟨21, loopAt Try.prog 21 0, 4, 24, 4, noFrame⟩
theorem sameImp_L4_ok : (sameImp_L4_A).OK := ⟨by show 4 ≤ 24; decide, by show 4 ≤ 4; decide, by kernel_rfl, rfl⟩
def sameImp_L4_gs (ka : Nat) (ca : List D) (kb : Nat) (cb : List D)  : Go.Ev.Rd → Option GS
  | .next 0 ds => ghost [.val 5] (4 :: (List.range' 13 18)) (sameImp_L4_E ka ca kb cb).1 (sameImp_L4_E ka ca kb cb).2 4 ds
  | .out 0 ds => ghost sameImp_x4_0.live sameImp_x4_0.junk (sameImp_L4_E ka ca kb cb).1 (sameImp_L4_E ka ca kb cb).2 4 ds
  | .out 1 ds => ghost sameImp_x4_1.live sameImp_x4_1.junk (sameImp_L4_E ka ca kb cb).1 (sameImp_L4_E ka ca kb cb).2 4 ds
  | _ => none
def sameImp_L4_ex : Nat → Option Nat
  | 0 => sameImp_x4_0.ex
  | 1 => sameImp_x4_1.ex
  | _ => none
def sameImp_L4_ax : Go.Ev.Rd → AX
  | .next _ _ => .normal
  | .out j _ => axOf (sameImp_L4_ex j)
def sameImp_L4_S0 (ka : Nat) (ca : List D) (kb : Nat) (cb : List D)  (ds : List D) : Option Go.Ev.Rd := pullD (α := Int) (some (.tup ds)) (fun d => ((D.vi (D.at d 0)))) (fun s5 => .tup [iD s5]) fun s5 => ((if s5 < (ka : Int) then guardP ((0 : Int) ≤ s5 ∧ s5.toNat < ka) (pullD (α := Int × Int) (readD ca (s5.toNat * 2) 2 true) (fun d => ((D.vi (D.at d 0)), (D.vi (D.at d 1)))) (fun (v0, v1) => .agg [iD v0, iD v1]) fun (v0, v1) => (guardP ((0 : Int) ≤ s5 ∧ s5.toNat < kb) (pullD (α := Int × Int) (readD cb (s5.toNat * 2) 2 true) (fun d => ((D.vi (D.at d 0)), (D.vi (D.at d 1)))) (fun (v2, v3) => .agg [iD v2, iD v3]) fun (v2, v3) => ((if (!(v0 == v2 && (v1 == v3 && true))) = true then some (.out 1 [.one (.bool false)]) else some (.next 0 [iD (IntKind.i64.wrap (s5 + (1 : Int)))])))))) else some (.out 0 [])))
def sameImp_L4_S (ka : Nat) (ca : List D) (kb : Nat) (cb : List D)  : Go.Ev.Rd → Option Go.Ev.Rd
  | .next 0 ds => sameImp_L4_S0 ka ca kb cb ds
  | _ => none
theorem sameImp_L4_S_0 (ka : Nat) (ca : List D) (kb : Nat) (cb : List D)  (ds : List D) : sameImp_L4_S ka ca kb cb (.next 0 ds) = sameImp_L4_S0 ka ca kb cb ds := rfl
theorem sameImp_L4_S_ok (ka : Nat) (ca : List D) (kb : Nat) (cb : List D)  : ∀ s_ t_, sameImp_L4_S ka ca kb cb s_ = some t_ → Step (ctx [21] sameImp_sp) Tabs sameImp_L4_A (stateOf (sameImp_L4_gs ka ca kb cb s_)) (stateOf (sameImp_L4_gs ka ca kb cb t_)) (sameImp_L4_ax t_) ∧ EndOK sameImp_L4_A.nx sameImp_L4_A.low (sameImp_L4_gs ka ca kb cb) t_
  | .next 0 ds, t_, h => by
    have h_ : sameImp_L4_S0 ka ca kb cb ds = some t_ := h
    clear h
    unfold sameImp_L4_S0 at h_
    obtain ⟨s5, e0, h0⟩ := pullD_elim h_
    clear h_
    obtain rfl := tup_inj e0
    by_cases b1_ : s5 < (ka : Int)
    · have h2_ := (if_pos b1_).symm.trans h0
      obtain ⟨f3_, h4_⟩ := guardP_elim h2_
      obtain ⟨⟨v0, v1⟩, f5_, h6_⟩ := pullD_elim h4_
      replace f5_ := readD_elim f5_
      obtain ⟨f7_, h8_⟩ := guardP_elim h6_
      obtain ⟨⟨v2, v3⟩, f9_, h10_⟩ := pullD_elim h8_
      replace f9_ := readD_elim f9_
      by_cases b11_ : (!(v0 == v2 && (v1 == v3 && true))) = true
      · have h12_ := (if_pos b11_).symm.trans h10_
        obtain rfl := Option.some.inj h12_
        exact ⟨step_pc 3000 (bT 2 []) [.agg [iD v0, iD v1], .agg [iD v2, iD v3]] [c_d b1_, c_f f3_, c_f f5_, c_f f7_, c_f f9_, c_q b11_] [] _ rfl (by kernel_rfl) (by kernel_rfl) (by kernel_rfl) (by kernel_rfl) (by kernel_rfl) (by kernel_rfl), by kernel_rfl, by kernel_rfl⟩
      have h12_ := (if_neg b11_).symm.trans h10_
      have b13_ : (!(v0 == v2 && (v1 == v3 && true))) = false := by first | exact b11_ | simpa using b11_
      obtain rfl := Option.some.inj h12_
      exact ⟨step_pc 3000 (bT 1 (bF 1 [])) [.agg [iD v0, iD v1], .agg [iD v2, iD v3]] [c_d b1_, c_f f3_, c_f f5_, c_f f7_, c_f f9_, c_q b13_] [] _ rfl (by kernel_rfl) (by kernel_rfl) (by kernel_rfl) (by kernel_rfl) (by kernel_rfl) (by kernel_rfl), trivial⟩
    have h2_ := (if_neg b1_).symm.trans h0
    obtain rfl := Option.some.inj h2_
    exact ⟨step_pc 3000 (bF 1 []) [] [c_n b1_] [] _ rfl (by kernel_rfl) (by kernel_rfl) (by kernel_rfl) (by kernel_rfl) (by kernel_rfl) (by kernel_rfl), by kernel_rfl, by kernel_rfl⟩
  | .next (_ + 1) _, _, h => by cases h
  | .out _ _, _, h => by cases h
theorem sameImp_L4_go (ka : Nat) (ca : List D) (kb : Nat) (cb : List D)  {q : Nat} {ds : List D} {j : Nat} {es : List D} (h : runR (sameImp_L4_S ka ca kb cb) (.next q ds) = some (.out j es)) : Runs (ctx [21] sameImp_sp) Tabs sameImp_L4_A (stateOf (sameImp_L4_gs ka ca kb cb (.next q ds))) (stateOf (sameImp_L4_gs ka ca kb cb (.out j es))) (sameImp_L4_ax (.out j es)) ∧ (nxtOf (sameImp_L4_gs ka ca kb cb (.out j es)), lowGS (sameImp_L4_gs ka ca kb cb (.out j es))) = (sameImp_L4_A.nx, sameImp_L4_A.low) :=
  runs_of' (good true _ _) sameImp_L4_ok (ax := sameImp_L4_ax) (fun _ _ => rfl) (fun _ _ => axOf_end _) (sameImp_L4_S_ok ka ca kb cb) h
theorem sameImp_L4_in0 (ka : Nat) (ca : List D) (kb : Nat) (cb : List D)  {es : List D} (h : runR (sameImp_L4_S ka ca kb cb) (.next 0 [iD ((0 : Int))]) = some (.out 0 es)) : LoopC (loopAt Try.prog 21 0) (sameImp_L4_E ka ca kb cb) 4 noFrame sameImp_x4_0 es :=
  have r := sameImp_L4_go ka ca kb cb h
  loopin_as rfl (loop_in (l := sameImp_L4_A) (E := (sameImp_L4_E ka ca kb cb)) (S := stateOf (sameImp_L4_gs ka ca kb cb (.next 0 [iD ((0 : Int))]))) (ns := nsOf (sameImp_L4_gs ka ca kb cb (.next 0 [iD ((0 : Int))]))) sameImp_L4_ok r.1 r.2 (by kernel_rfl) (by kernel_rfl) (by kernel_rfl) (by kernel_rfl))
theorem sameImp_L4_in1 (ka : Nat) (ca : List D) (kb : Nat) (cb : List D)  {es : List D} (h : runR (sameImp_L4_S ka ca kb cb) (.next 0 [iD ((0 : Int))]) = some (.out 1 es)) : LoopC (loopAt Try.prog 21 0) (sameImp_L4_E ka ca kb cb) 4 noFrame sameImp_x4_1 es :=
  have r := sameImp_L4_go ka ca kb cb h
  loopin_as rfl (loop_in (l := sameImp_L4_A) (E := (sameImp_L4_E ka ca kb cb)) (S := stateOf (sameImp_L4_gs ka ca kb cb (.next 0 [iD ((0 : Int))]))) (ns := nsOf (sameImp_L4_gs ka ca kb cb (.next 0 [iD ((0 : Int))]))) sameImp_L4_ok r.1 r.2 (by kernel_rfl) (by kernel_rfl) (by kernel_rfl) (by kernel_rfl))
def sameImp_M (ka : Nat) (ca : List D) (kb : Nat) (cb : List D) : Option D := (if (ka : Int) ≠ (kb : Int) then some (.one (.bool false)) else bindL (runR (sameImp_L4_S ka ca kb cb) (.next 0 [iD ((0 : Int))])) fun j ds => (if j = 0 then pullD (some (.tup ds)) (fun _ => ()) (fun _ => .tup []) fun _ => (some (.one (.bool true))) else if j = 1 then pullD (α := Bool) (some (.tup ds)) (fun d => ((D.vb (D.at d 0)))) (fun l0 => .tup [.one (.bool l0)]) fun l0 => (some (.one (.bool l0))) else none))
theorem sameImp_M_ok (ka : Nat) (ca : List D) (kb : Nat) (cb : List D) {r : D} (h : sameImp_M ka ca kb cb = some r) : Con 21 [.agg [.list ka ca], .agg [.list kb cb]] r := by
  unfold sameImp_M at h
  by_cases b1_ : (ka : Int) ≠ (kb : Int)
  · have h2_ := (if_pos b1_).symm.trans h
    obtain rfl := Option.some.inj h2_
    exact con_pc (op := true) (I := [21]) (sp := sameImp_sp) 3000 (bT 1 []) [] [c_b b1_] [] (by kernel_rfl)
  have h2_ := (if_neg b1_).symm.trans h
  have b3_ : (ka : Int) = (kb : Int) := by first | exact b1_ | simpa using b1_
  obtain ⟨j, ds, e4_, h5_⟩ := bindL_elim h2_
  by_cases j6_ : j = 0
  · have h9_ := (if_pos j6_).symm.trans h5_
    clear h5_
    subst j6_
    obtain ⟨⟨⟩, e7_, h10_⟩ := pullD_elim h9_
    clear h9_
    obtain rfl := tup_inj e7_
    have k8_ := sameImp_L4_in0 ka ca kb cb e4_
    obtain rfl := Option.some.inj h10_
    exact con_pc (op := true) (I := [21]) (sp := sameImp_sp) 3000 (bF 1 []) [.tup [iD (Int.ofNat 0)]] [c_bn b3_] [k_l k8_ [] [.tup [iD (Int.ofNat 0)]] []] (by kernel_rfl)
  have h11_ := (if_neg j6_).symm.trans h5_
  clear h5_
  by_cases j12_ : j = 1
  · have h15_ := (if_pos j12_).symm.trans h11_
    clear h11_
    subst j12_
    obtain ⟨l0, e13_, h16_⟩ := pullD_elim h15_
    clear h15_
    obtain rfl := tup_inj e13_
    have k14_ := sameImp_L4_in1 ka ca kb cb e4_
    obtain rfl := Option.some.inj h16_
    exact con_pc (op := true) (I := [21]) (sp := sameImp_sp) 3000 (bF 1 []) [.tup [iD (Int.ofNat 1), .one (.bool l0)]] [c_bn b3_] [k_l k14_ [] [.tup [iD (Int.ofNat 1), .one (.bool l0)]] []] (by kernel_rfl)
  have h17_ := (if_neg j12_).symm.trans h11_
  clear h11_
  cases h17_
def m_21 (ds : List D) : Option D := pullD (α := Nat × (List D) × Nat × (List D)) (some (.tup ds)) (fun d => ((D.ln (D.at (D.at d 0) 0)), (D.lc (D.at (D.at d 0) 0)), (D.ln (D.at (D.at d 1) 0)), (D.lc (D.at (D.at d 1) 0)))) (fun (ka, ca, kb, cb) => .tup [.agg [.list ka ca], .agg [.list kb cb]]) fun (ka, ca, kb, cb) => sameImp_M ka ca kb cb
theorem m_21_ok {ds : List D} {r : D} (h : m_21 ds = some r) : Con 21 ds r := by
  unfold m_21 at h
  obtain ⟨⟨ka, ca, kb, cb⟩, e0, h0⟩ := pullD_elim h
  obtain rfl := tup_inj e0
  exact sameImp_M_ok ka ca kb cb h0
theorem m_21_eq (ka : Nat) (ca : List D) (kb : Nat) (cb : List D) : m_21 [.agg [.list ka ca], .agg [.list kb cb]] = sameImp_M ka ca kb cb := pullD_some (ka, ca, kb, cb) rfl rfl
def isSteeper_sp : List LSpec := []
def isSteeper_M (a b c d : Int) : Option D := pullD (α := Int) (m_42 [iD a]) (fun d => ((D.vi d))) (fun r0 => iD r0) fun r0 => (pullD (α := Int) (m_42 [iD c]) (fun d => ((D.vi d))) (fun r1 => iD r1) fun r1 => (some (.one (.bool (decide (IntKind.i64.wrap (r0 * d) > IntKind.i64.wrap (r1 * b)))))))
theorem isSteeper_M_ok (a b c d : Int) {r : D} (h : isSteeper_M a b c d = some r) : Con 41 [.agg [iD a, iD b], .agg [iD c, iD d]] r := by
  unfold isSteeper_M at h
  obtain ⟨r0, f1_, h2_⟩ := pullD_elim h
  replace f1_ := m_42_ok f1_
  obtain ⟨r1, f3_, h4_⟩ := pullD_elim h2_
  replace f3_ := m_42_ok f3_
  obtain rfl := Option.some.inj h4_
  exact con_pc (op := true) (I := [41]) (sp := isSteeper_sp) 3000 [] [iD r0, iD r1] [] [k_c f1_, k_c f3_] (by kernel_rfl)
def m_41 (ds : List D) : Option D := pullD (α := Int × Int × Int × Int) (some (.tup ds)) (fun d => ((D.vi (D.at (D.at d 0) 0)), (D.vi (D.at (D.at d 0) 1)), (D.vi (D.at (D.at d 1) 0)), (D.vi (D.at (D.at d 1) 1)))) (fun (a, b, c, d) => .tup [.agg [iD a, iD b], .agg [iD c, iD d]]) fun (a, b, c, d) => isSteeper_M a b c d
theorem m_41_ok {ds : List D} {r : D} (h : m_41 ds = some r) : Con 41 ds r := by
  unfold m_41 at h
  obtain ⟨⟨a, b, c, d⟩, e0, h0⟩ := pullD_elim h
  obtain rfl := tup_inj e0
  exact isSteeper_M_ok a b c d h0
theorem m_41_eq (a b c d : Int) : m_41 [.agg [iD a, iD b], .agg [iD c, iD d]] = isSteeper_M a b c d := pullD_some (a, b, c, d) rfl rfl
def steepestOf_x40_2_0 : LExit := ⟨some 0, [.cval 2007 0, .cval 2008 0, .cval 2008 1, .rcd 1 .ready], (4 :: (5 :: (6 :: (List.range' 12 27))))⟩
def steepestOf_sp : List LSpec := [⟨40, 2, [steepestOf_x40_2_0]⟩]
def steepestOf_L40_2_E (ka : Nat) (ca : List D) (x0 : Nat) (x1 : List D) (x2 : Int) : List AV × AHeap := ([.agg [.dsl 3], .yld 8, .ptr 9 0, .pure (.tuple #[]), .pure (.tuple #[]), .pure (.tuple #[]), .pure (.tuple #[]), .ptr 9 0, .ptr 9 0, .dsl 3, .dsl 10, .pure (.int .i64 (((((x0 : Int)).toNat - Int.toNat (1 : Int)) : Nat) : Int)), .pure (.int .i64 (0 : Int)), .pure (.tuple #[]), .pure (.tuple #[]), .pure (.tuple #[]), .pure (.tuple #[]), .pure (.tuple #[]), .pure (.tuple #[]), .pure (.tuple #[]), .pure (.tuple #[]), .pure (.tuple #[]), .pure (.tuple #[]), .pure (.tuple #[]), .pure (.tuple #[]), .pure (.tuple #[]), .pure (.tuple #[]), .pure (.tuple #[]), .pure (.tuple #[]), .pure (.tuple #[]), .pure (.tuple #[]), .pure (.tuple #[]), .pure (.tuple #[]), .pure (.tuple #[]), .pure (.tuple #[]), .pure (.tuple #[]), .pure (.tuple #[]), .pure (.tuple #[]), .pure (.tuple #[])], [(10, { cells := [], opn := none, kind := .deep (((x0 : Int)).toNat - Int.toNat (1 : Int)) (List.take ((((x0 : Int)).toNat - Int.toNat (1 : Int)) * 2) (List.drop (Int.toNat (1 : Int) * 2) x1)) }), (9, { cells := [.dsl 3], opn := none, kind := .cells }), (8, { cells := [.agg [.dsl 0], .ptr 1 0, .pure (.int .i64 (0 : Int)), .ptr 2 0, .pure (.int .i64 (0 : Int)), .ptr 4 0, .pure (.int .i64 x2), .ptr 5 0, .ptr 6 0, .pure (.tuple #[]), .pure (.tuple #[]), .tuple [.agg [.dsl 3], .pure (.int .i64 x2)], .agg [.dsl 0], .tuple [.agg [.dsl 3], .pure (.int .i64 x2)], .agg [.dsl 3], .pure (.int .i64 x2), .pure (.int .i64 x2), .pure (.bool (x2 != (0 : Int))), .pure (.tuple #[]), .pure (.tuple #[]), .pure (.agg #[.int .i64 (0 : Int), .int .i64 (1 : Int)]), .agg [.dsl 3], .func (Fn.func 40) [.agg [.dsl 3]] [], .pure (.tuple #[]), .pure (.tuple #[]), .pure (.tuple #[]), .pure (.tuple #[]), .pure (.tuple #[]), .pure (.tuple #[]), .pure (.tuple #[]), .pure (.tuple #[]), .pure (.tuple #[]), .pure (.tuple #[]), .pure (.tuple #[]), .pure (.tuple #[]), .pure (.tuple #[]), .pure (.tuple #[])], opn := none, kind := .loop { f := 11, ps := #[23, 24], asg := (Code.region 6 #[{ dst := some 9, op := Op.assign (Operand.tmp 23), type := 3, pos := "impulses.go:115", after := #[], guard := none }] false).seq (Code.region 7 #[{ dst := some 10, op := Op.alloc 96, type := 0, pos := "impulses.go:115", after := #[], guard := none }, { dst := none, op := Op.store 96 (Operand.tmp 10) (Operand.tmp 24), type := 0, pos := "impulses.go:115", after := #[{ on := 0, ground := Ground.data }, { on := 0, ground := Ground.phase }], guard := none }] false), body := Code.block 1 ((Code.region 8 #[{ dst := some 25, op := Op.load 96 (Operand.tmp 10), type := 96, pos := "impulses.go:116", after := #[], guard := none }, { dst := some 26, op := Op.load 96 (Operand.tmp 8), type := 96, pos := "impulses.go:116", after := #[], guard := none }, { dst := some 27, op := Op.call { callee := Callee.value (Operand.func 41), args := #[Operand.tmp 25, Operand.tmp 26], argTypes := #[96, 96] }, type := 4, pos := "impulses.go:116", after := #[{ on := 0, ground := Ground.data }, { on := 1, ground := Ground.data }], guard := none }] false).seq (Code.cond (Operand.tmp 27) (Code.region 9 #[{ dst := some 28, op := Op.move (Operand.tmp 9), type := 3, pos := "impulses.go:117", after := #[], guard := none }, { dst := some 29, op := Op.load 96 (Operand.tmp 10), type := 96, pos := "impulses.go:117", after := #[{ on := 2, ground := Ground.gcOnly Departure.lateStores }], guard := none }, { dst := none, op := Op.store 3 (Operand.tmp 7) (Operand.tmp 28), type := 0, pos := "impulses.go:117", after := #[{ on := 0, ground := Ground.data }, { on := 0, ground := Ground.phase }, { on := 1, ground := Ground.textOnly Departure.lateStores }], guard := none }, { dst := none, op := Op.store 96 (Operand.tmp 8) (Operand.tmp 29), type := 0, pos := "impulses.go:117", after := #[{ on := 1, ground := Ground.data }, { on := 2, ground := Ground.chain }, { on := 0, ground := Ground.phase }, { on := 1, ground := Ground.phase }, { on := 2, ground := Ground.phase }], guard := none }] true) Code.skip)), st := RState.ready } }), (7, { cells := [], opn := none, kind := .dfr }), (6, { cells := [.pure (.int .i64 (0 : Int)), .pure (.int .i64 (1 : Int))], opn := none, kind := .cells }), (5, { cells := [.pure (.int .i64 (0 : Int))], opn := none, kind := .cells }), (4, { cells := [.dsl 3], opn := none, kind := .cells }), (3, { cells := [], opn := none, kind := .deep x0 x1 }), (2, { cells := [.pure (.int .i64 (0 : Int)), .pure (.int .i64 (0 : Int))], opn := none, kind := .cells }), (1, { cells := [.dsl 0], opn := none, kind := .cells }), (0, { cells := [], opn := none, kind := .deep ka ca })])
def steepestOf_L40_2_A : LoopAt := ⟨40, loopAt Try.prog 40 0, 11, 45, 5, noFrame⟩
theorem steepestOf_L40_2_ok : (steepestOf_L40_2_A).OK := ⟨by show 11 ≤ 45; decide, by show 5 ≤ 11; decide, by kernel_rfl, rfl⟩
def steepestOf_L40_2_gs (ka : Nat) (ca : List D) (x0 : Nat) (x1 : List D) (x2 : Int) : Go.Ev.Rd → Option GS
  | .next 0 ds => ghost [.val 12, .cval 2007 0, .cval 2008 0, .cval 2008 1, .rcd 1 .ready] (4 :: (5 :: (6 :: (List.range' 13 26)))) (steepestOf_L40_2_E ka ca x0 x1 x2).1 (steepestOf_L40_2_E ka ca x0 x1 x2).2 11 ds
  | .out 0 ds => ghost steepestOf_x40_2_0.live steepestOf_x40_2_0.junk (steepestOf_L40_2_E ka ca x0 x1 x2).1 (steepestOf_L40_2_E ka ca x0 x1 x2).2 11 ds
  | _ => none
def steepestOf_L40_2_ex : Nat → Option Nat
  | 0 => steepestOf_x40_2_0.ex
  | _ => none
def steepestOf_L40_2_ax : Go.Ev.Rd → AX
  | .next _ _ => .normal
  | .out j _ => axOf (steepestOf_L40_2_ex j)
def steepestOf_L40_2_S0 (ka : Nat) (ca : List D) (x0 : Nat) (x1 : List D) (x2 : Int) (ds : List D) : Option Go.Ev.Rd := pullD (α := Int × Int × Int × Int) (some (.tup ds)) (fun d => ((D.vi (D.at d 0)), (D.vi (D.at d 1)), (D.vi (D.at d 2)), (D.vi (D.at d 3)))) (fun (s12, s2007_0, s2008_0, s2008_1) => .tup [iD s12, iD s2007_0, iD s2008_0, iD s2008_1, .one (.tuple #[])]) fun (s12, s2007_0, s2008_0, s2008_1) => ((if s12 < (((((x0 : Int)).toNat - Int.toNat (1 : Int)) : Nat) : Int) then guardP ((0 : Int) ≤ s12 ∧ s12.toNat < ((x0 : Int)).toNat - Int.toNat (1 : Int)) (pullD (α := Int × Int) (readD (List.take ((((x0 : Int)).toNat - Int.toNat (1 : Int)) * 2) (List.drop (Int.toNat (1 : Int) * 2) x1)) (s12.toNat * 2) 2 true) (fun d => ((D.vi (D.at d 0)), (D.vi (D.at d 1)))) (fun (v0, v1) => .agg [iD v0, iD v1]) fun (v0, v1) => (guardP ((0 : Int) ≤ s12 ∧ s12.toNat < x0) (pullD (α := Int × Int) (readD x1 (s12.toNat * 2) 2 true) (fun d => ((D.vi (D.at d 0)), (D.vi (D.at d 1)))) (fun (v2, v3) => .agg [iD v2, iD v3]) fun (v2, v3) => (pullD (α := Bool) (m_41 [.agg [iD (IntKind.i64.wrap (v1 - v3)), iD (IntKind.i64.wrap (v0 - v2))], .agg [iD s2008_0, iD s2008_1]]) (fun d => ((D.vb d))) (fun r4 => .one (.bool r4)) fun r4 => ((if (r4) = true then some (.next 0 [iD (IntKind.i64.wrap (s12 + (1 : Int))), iD s12, iD (IntKind.i64.wrap (v1 - v3)), iD (IntKind.i64.wrap (v0 - v2)), .one (.tuple #[])]) else some (.next 0 [iD (IntKind.i64.wrap (s12 + (1 : Int))), iD s2007_0, iD s2008_0, iD s2008_1, .one (.tuple #[])]))))))) else some (.out 0 [iD s2007_0, iD s2008_0, iD s2008_1, .one (.tuple #[])])))
def steepestOf_L40_2_S (ka : Nat) (ca : List D) (x0 : Nat) (x1 : List D) (x2 : Int) : Go.Ev.Rd → Option Go.Ev.Rd
  | .next 0 ds => steepestOf_L40_2_S0 ka ca x0 x1 x2 ds
  | _ => none
theorem steepestOf_L40_2_S_0 (ka : Nat) (ca : List D) (x0 : Nat) (x1 : List D) (x2 : Int) (ds : List D) : steepestOf_L40_2_S ka ca x0 x1 x2 (.next 0 ds) = steepestOf_L40_2_S0 ka ca x0 x1 x2 ds := rfl
theorem steepestOf_L40_2_S_ok (ka : Nat) (ca : List D) (x0 : Nat) (x1 : List D) (x2 : Int) : ∀ s_ t_, steepestOf_L40_2_S ka ca x0 x1 x2 s_ = some t_ → Step (ctx [11, 40] steepestOf_sp) Tabs steepestOf_L40_2_A (stateOf (steepestOf_L40_2_gs ka ca x0 x1 x2 s_)) (stateOf (steepestOf_L40_2_gs ka ca x0 x1 x2 t_)) (steepestOf_L40_2_ax t_) ∧ EndOK steepestOf_L40_2_A.nx steepestOf_L40_2_A.low (steepestOf_L40_2_gs ka ca x0 x1 x2) t_
  | .next 0 ds, t_, h => by
    have h_ : steepestOf_L40_2_S0 ka ca x0 x1 x2 ds = some t_ := h
    clear h
    unfold steepestOf_L40_2_S0 at h_
    obtain ⟨⟨s12, s2007_0, s2008_0, s2008_1⟩, e0, h0⟩ := pullD_elim h_
    clear h_
    obtain rfl := tup_inj e0
    by_cases b1_ : s12 < (((((x0 : Int)).toNat - Int.toNat (1 : Int)) : Nat) : Int)
    · have h2_ := (if_pos b1_).symm.trans h0
      obtain ⟨f3_, h4_⟩ := guardP_elim h2_
      obtain ⟨⟨v0, v1⟩, f5_, h6_⟩ := pullD_elim h4_
      replace f5_ := readD_elim f5_
      obtain ⟨f7_, h8_⟩ := guardP_elim h6_
      obtain ⟨⟨v2, v3⟩, f9_, h10_⟩ := pullD_elim h8_
      replace f9_ := readD_elim f9_
      obtain ⟨r4, f11_, h12_⟩ := pullD_elim h10_
      replace f11_ := m_41_ok f11_
      by_cases b13_ : (r4) = true
      · have h14_ := (if_pos b13_).symm.trans h12_
        obtain rfl := Option.some.inj h14_
        exact ⟨step_pc 3000 (bT 2 (bF 1 [])) [.agg [iD v0, iD v1], .agg [iD v2, iD v3], .one (.bool r4)] [c_d b1_, c_f f3_, c_f f5_, c_f f7_, c_f f9_, c_q b13_, c_F] [k_c f11_] _ rfl (by kernel_rfl) (by kernel_rfl) (by kernel_rfl) (by kernel_rfl) (by kernel_rfl) (by kernel_rfl), trivial⟩
      have h14_ := (if_neg b13_).symm.trans h12_
      have b15_ : (r4) = false := by first | exact b13_ | simpa using b13_
      obtain rfl := Option.some.inj h14_
      exact ⟨step_pc 3000 (bT 1 (bF 2 [])) [.agg [iD v0, iD v1], .agg [iD v2, iD v3], .one (.bool r4)] [c_d b1_, c_f f3_, c_f f5_, c_f f7_, c_f f9_, c_q b15_, c_F] [k_c f11_] _ rfl (by kernel_rfl) (by kernel_rfl) (by kernel_rfl) (by kernel_rfl) (by kernel_rfl) (by kernel_rfl), trivial⟩
    have h2_ := (if_neg b1_).symm.trans h0
    obtain rfl := Option.some.inj h2_
    exact ⟨step_pc 3000 (bF 1 []) [] [c_n b1_] [] _ rfl (by kernel_rfl) (by kernel_rfl) (by kernel_rfl) (by kernel_rfl) (by kernel_rfl) (by kernel_rfl), by kernel_rfl, by kernel_rfl⟩
  | .next (_ + 1) _, _, h => by cases h
  | .out _ _, _, h => by cases h
theorem steepestOf_L40_2_go (ka : Nat) (ca : List D) (x0 : Nat) (x1 : List D) (x2 : Int) {q : Nat} {ds : List D} {j : Nat} {es : List D} (h : runR (steepestOf_L40_2_S ka ca x0 x1 x2) (.next q ds) = some (.out j es)) : Runs (ctx [11, 40] steepestOf_sp) Tabs steepestOf_L40_2_A (stateOf (steepestOf_L40_2_gs ka ca x0 x1 x2 (.next q ds))) (stateOf (steepestOf_L40_2_gs ka ca x0 x1 x2 (.out j es))) (steepestOf_L40_2_ax (.out j es)) ∧ (nxtOf (steepestOf_L40_2_gs ka ca x0 x1 x2 (.out j es)), lowGS (steepestOf_L40_2_gs ka ca x0 x1 x2 (.out j es))) = (steepestOf_L40_2_A.nx, steepestOf_L40_2_A.low) :=
  runs_of' (good true _ _) steepestOf_L40_2_ok (ax := steepestOf_L40_2_ax) (fun _ _ => rfl) (fun _ _ => axOf_end _) (steepestOf_L40_2_S_ok ka ca x0 x1 x2) h
theorem steepestOf_L40_2_in0 (ka : Nat) (ca : List D) (x0 : Nat) (x1 : List D) (x2 : Int) {es : List D} (h : runR (steepestOf_L40_2_S ka ca x0 x1 x2) (.next 0 [iD ((0 : Int)), iD ((0 : Int)), iD ((0 : Int)), iD ((1 : Int)), .one (.tuple #[])]) = some (.out 0 es)) : LoopC (loopAt Try.prog 40 0) (steepestOf_L40_2_E ka ca x0 x1 x2) 11 noFrame steepestOf_x40_2_0 es :=
  have r := steepestOf_L40_2_go ka ca x0 x1 x2 h
  loopin_as rfl (loop_in (l := steepestOf_L40_2_A) (E := (steepestOf_L40_2_E ka ca x0 x1 x2)) (S := stateOf (steepestOf_L40_2_gs ka ca x0 x1 x2 (.next 0 [iD ((0 : Int)), iD ((0 : Int)), iD ((0 : Int)), iD ((1 : Int)), .one (.tuple #[])]))) (ns := nsOf (steepestOf_L40_2_gs ka ca x0 x1 x2 (.next 0 [iD ((0 : Int)), iD ((0 : Int)), iD ((0 : Int)), iD ((1 : Int)), .one (.tuple #[])]))) steepestOf_L40_2_ok r.1 r.2 (by kernel_rfl) (by kernel_rfl) (by kernel_rfl) (by kernel_rfl))
def steepestOf_M (ka : Nat) (ca : List D) : Option D := pullD (α := Nat × (List D) × Int) (m_36 [.agg [.list ka ca]]) (fun d => ((D.ln (D.at (D.at d 0) 0)), (D.lc (D.at (D.at d 0) 0)), (D.vi (D.at d 1)))) (fun (k0, c1, r2) => .tup [.agg [.list k0 c1], iD r2]) fun (k0, c1, r2) => ((if r2 ≠ (0 : Int) then some (.tup [iD (0 : Int), .agg [iD (0 : Int), iD (0 : Int)], iD r2]) else guardP ((0 : Int) ≤ (1 : Int) ∧ (1 : Int) ≤ (k0 : Int) ∧ (k0 : Int) ≤ (k0 : Int) ∧ c1.length = k0 * 2) (bindL (runR (steepestOf_L40_2_S ka ca k0 c1 r2) (.next 0 [iD ((0 : Int)), iD ((0 : Int)), iD ((0 : Int)), iD ((1 : Int)), .one (.tuple #[])])) fun j ds => (if j = 0 then pullD (α := Int × Int × Int) (some (.tup ds)) (fun d => ((D.vi (D.at d 0)), (D.vi (D.at d 1)), (D.vi (D.at d 2)))) (fun (l3, l4, l5) => .tup [iD l3, iD l4, iD l5, .one (.tuple #[])]) fun (l3, l4, l5) => (pullD (α := Int) (m_42 [iD l4]) (fun d => ((D.vi d))) (fun r6 => iD r6) fun r6 => (pullD (α := Int × Int) (m_38 [iD r6, iD l5]) (fun d => ((D.vi (D.at d 0)), (D.vi (D.at d 1)))) (fun (r7, r8) => .agg [iD r7, iD r8]) fun (r7, r8) => (some (.tup [iD l3, .agg [iD r7, iD r8], iD (0 : Int)])))) else none))))
theorem steepestOf_M_ok (ka : Nat) (ca : List D) {r : D} (h : steepestOf_M ka ca = some r) : Con 11 [.agg [.list ka ca]] r := by
  unfold steepestOf_M at h
  obtain ⟨⟨k0, c1, r2⟩, f1_, h2_⟩ := pullD_elim h
  replace f1_ := m_36_ok f1_
  by_cases b3_ : r2 ≠ (0 : Int)
  · have h4_ := (if_pos b3_).symm.trans h2_
    obtain rfl := Option.some.inj h4_
    exact con_pc (op := true) (I := [11, 40]) (sp := steepestOf_sp) 3000 (bT 1 []) [.tup [.agg [.list k0 c1], iD r2]] [c_b b3_] [k_c f1_] (by kernel_rfl)
  have h4_ := (if_neg b3_).symm.trans h2_
  have b5_ : r2 = (0 : Int) := by first | exact b3_ | simpa using b3_
  obtain ⟨f6_, h7_⟩ := guardP_elim h4_
  obtain ⟨j, ds, e8_, h9_⟩ := bindL_elim h7_
  by_cases j10_ : j = 0
  · have h13_ := (if_pos j10_).symm.trans h9_
    clear h9_
    subst j10_
    obtain ⟨⟨l3, l4, l5⟩, e11_, h14_⟩ := pullD_elim h13_
    clear h13_
    obtain rfl := tup_inj e11_
    have k12_ := steepestOf_L40_2_in0 ka ca k0 c1 r2 e8_
    obtain ⟨r6, f15_, h16_⟩ := pullD_elim h14_
    replace f15_ := m_42_ok f15_
    obtain ⟨⟨r7, r8⟩, f17_, h18_⟩ := pullD_elim h16_
    replace f17_ := m_38_ok f17_
    obtain rfl := Option.some.inj h18_
    exact con_pc (op := true) (I := [11, 40]) (sp := steepestOf_sp) 3000 (bF 1 []) [.tup [.agg [.list k0 c1], iD r2], .tup [iD (Int.ofNat 0), iD l3, iD l4, iD l5, .one (.tuple #[])], iD r6, .agg [iD r7, iD r8]] [c_bn b5_, c_f f6_] [k_c f1_, k_l k12_ [] [.tup [iD (Int.ofNat 0), iD l3, iD l4, iD l5, .one (.tuple #[])], iD r6, .agg [iD r7, iD r8]] [iD r6, .agg [iD r7, iD r8]], k_c f15_, k_c f17_] (by kernel_rfl)
  have h19_ := (if_neg j10_).symm.trans h9_
  clear h9_
  cases h19_
def m_11 (ds : List D) : Option D := pullD (α := Nat × (List D)) (some (.tup ds)) (fun d => ((D.ln (D.at (D.at d 0) 0)), (D.lc (D.at (D.at d 0) 0)))) (fun (ka, ca) => .tup [.agg [.list ka ca]]) fun (ka, ca) => steepestOf_M ka ca
theorem m_11_ok {ds : List D} {r : D} (h : m_11 ds = some r) : Con 11 ds r := by
  unfold m_11 at h
  obtain ⟨⟨ka, ca⟩, e0, h0⟩ := pullD_elim h
  obtain rfl := tup_inj e0
  exact steepestOf_M_ok ka ca h0
theorem m_11_eq (ka : Nat) (ca : List D) : m_11 [.agg [.list ka ca]] = steepestOf_M ka ca := pullD_some (ka, ca) rfl rfl
def sizeR_sp : List LSpec := []
def sizeR_M (n : Int) : Option D := some (iD (if IntKind.i64.wrap ((0 : Int) - n) > n then IntKind.i64.wrap ((0 : Int) - n) else n))
theorem sizeR_M_ok (n : Int) {r : D} (h : sizeR_M n = some r) : Con 62 [iD n] r := by
  unfold sizeR_M at h
  obtain rfl := Option.some.inj h
  exact con_pc (op := true) (I := [62]) (sp := sizeR_sp) 3000 [] [] [] [] (by kernel_rfl)
def m_62 (ds : List D) : Option D := pullD (α := Int) (some (.tup ds)) (fun d => ((D.vi (D.at d 0)))) (fun n => .tup [iD n]) fun n => sizeR_M n
theorem m_62_ok {ds : List D} {r : D} (h : m_62 ds = some r) : Con 62 ds r := by
  unfold m_62 at h
  obtain ⟨n, e0, h0⟩ := pullD_elim h
  obtain rfl := tup_inj e0
  exact sizeR_M_ok n h0
theorem m_62_eq (n : Int) : m_62 [iD n] = sizeR_M n := pullD_some n rfl rfl
def gcdR_x1_0 : LExit := ⟨some 0, [.val 0], (1 :: (List.range' 5 6))⟩
def gcdR_sp : List LSpec := [⟨45, 1, [gcdR_x1_0]⟩]
def gcdR_L1_E (n m : Int)  : List AV × AHeap := ([.pure (.int .i64 n), .pure (.int .i64 m), .pure (.tuple #[]), .pure (.tuple #[]), .pure (.int .i64 (0 : Int)), .pure (.tuple #[]), .pure (.tuple #[]), .pure (.tuple #[]), .pure (.tuple #[]), .pure (.tuple #[]), .pure (.tuple #[]), .pure (.tuple #[]), .pure (.tuple #[])], [])
def gcdR_L1_A : LoopAt := ⟨45, loopAt Try.prog 45 0, 0, 8, 0, noFrame⟩
theorem gcdR_L1_ok : (gcdR_L1_A).OK := ⟨by show 0 ≤ 8; decide, by show 0 ≤ 0; decide, by kernel_rfl, rfl⟩
def gcdR_L1_gs (n m : Int)  : Go.Ev.Rd → Option GS
  | .next 0 ds => ghost [.val 0, .val 1] (List.range' 5 6) (gcdR_L1_E n m).1 (gcdR_L1_E n m).2 0 ds
  | .out 0 ds => ghost gcdR_x1_0.live gcdR_x1_0.junk (gcdR_L1_E n m).1 (gcdR_L1_E n m).2 0 ds
  | _ => none
def gcdR_L1_ex : Nat → Option Nat
  | 0 => gcdR_x1_0.ex
  | _ => none
def gcdR_L1_ax : Go.Ev.Rd → AX
  | .next _ _ => .normal
  | .out j _ => axOf (gcdR_L1_ex j)
def gcdR_L1_S0 (n m : Int)  (ds : List D) : Option Go.Ev.Rd := pullD (α := Int × Int) (some (.tup ds)) (fun d => ((D.vi (D.at d 0)), (D.vi (D.at d 1)))) (fun (s0, s1) => .tup [iD s0, iD s1]) fun (s0, s1) => ((if s1 ≠ (0 : Int) then some (.next 0 [iD s1, iD (s0.tmod s1)]) else some (.out 0 [iD s0])))
def gcdR_L1_S (n m : Int)  : Go.Ev.Rd → Option Go.Ev.Rd
  | .next 0 ds => gcdR_L1_S0 n m ds
  | _ => none
theorem gcdR_L1_S_0 (n m : Int)  (ds : List D) : gcdR_L1_S n m (.next 0 ds) = gcdR_L1_S0 n m ds := rfl
theorem gcdR_L1_S_ok (n m : Int)  : ∀ s_ t_, gcdR_L1_S n m s_ = some t_ → Step (ctx [45] gcdR_sp) Tabs gcdR_L1_A (stateOf (gcdR_L1_gs n m s_)) (stateOf (gcdR_L1_gs n m t_)) (gcdR_L1_ax t_) ∧ EndOK gcdR_L1_A.nx gcdR_L1_A.low (gcdR_L1_gs n m) t_
  | .next 0 ds, t_, h => by
    have h_ : gcdR_L1_S0 n m ds = some t_ := h
    clear h
    unfold gcdR_L1_S0 at h_
    obtain ⟨⟨s0, s1⟩, e0, h0⟩ := pullD_elim h_
    clear h_
    obtain rfl := tup_inj e0
    by_cases b1_ : s1 ≠ (0 : Int)
    · have h2_ := (if_pos b1_).symm.trans h0
      obtain rfl := Option.some.inj h2_
      exact ⟨step_pc 3000 (bT 1 []) [] [c_b b1_, c_en b1_] [] _ rfl (by kernel_rfl) (by kernel_rfl) (by kernel_rfl) (by kernel_rfl) (by kernel_rfl) (by kernel_rfl), trivial⟩
    have h2_ := (if_neg b1_).symm.trans h0
    have b3_ : s1 = (0 : Int) := by first | exact b1_ | simpa using b1_
    obtain rfl := Option.some.inj h2_
    exact ⟨step_pc 3000 (bF 1 []) [] [c_bn b3_] [] _ rfl (by kernel_rfl) (by kernel_rfl) (by kernel_rfl) (by kernel_rfl) (by kernel_rfl) (by kernel_rfl), by kernel_rfl, by kernel_rfl⟩
  | .next (_ + 1) _, _, h => by cases h
  | .out _ _, _, h => by cases h
theorem gcdR_L1_go (n m : Int)  {q : Nat} {ds : List D} {j : Nat} {es : List D} (h : runR (gcdR_L1_S n m) (.next q ds) = some (.out j es)) : Runs (ctx [45] gcdR_sp) Tabs gcdR_L1_A (stateOf (gcdR_L1_gs n m (.next q ds))) (stateOf (gcdR_L1_gs n m (.out j es))) (gcdR_L1_ax (.out j es)) ∧ (nxtOf (gcdR_L1_gs n m (.out j es)), lowGS (gcdR_L1_gs n m (.out j es))) = (gcdR_L1_A.nx, gcdR_L1_A.low) :=
  runs_of' (good true _ _) gcdR_L1_ok (ax := gcdR_L1_ax) (fun _ _ => rfl) (fun _ _ => axOf_end _) (gcdR_L1_S_ok n m) h
theorem gcdR_L1_in0 (n m : Int)  {es : List D} (h : runR (gcdR_L1_S n m) (.next 0 [iD n, iD m]) = some (.out 0 es)) : LoopC (loopAt Try.prog 45 0) (gcdR_L1_E n m) 0 noFrame gcdR_x1_0 es :=
  have r := gcdR_L1_go n m h
  loopin_as rfl (loop_in (l := gcdR_L1_A) (E := (gcdR_L1_E n m)) (S := stateOf (gcdR_L1_gs n m (.next 0 [iD n, iD m]))) (ns := nsOf (gcdR_L1_gs n m (.next 0 [iD n, iD m]))) gcdR_L1_ok r.1 r.2 (by kernel_rfl) (by kernel_rfl) (by kernel_rfl) (by kernel_rfl))
def gcdR_M (n m : Int) : Option D := bindL (runR (gcdR_L1_S n m) (.next 0 [iD n, iD m])) fun j ds => (if j = 0 then pullD (α := Int) (some (.tup ds)) (fun d => ((D.vi (D.at d 0)))) (fun l0 => .tup [iD l0]) fun l0 => (pullD (α := Int) (m_62 [iD l0]) (fun d => ((D.vi d))) (fun r1 => iD r1) fun r1 => (some (iD r1))) else none)
theorem gcdR_M_ok (n m : Int) {r : D} (h : gcdR_M n m = some r) : Con 45 [iD n, iD m] r := by
  unfold gcdR_M at h
  obtain ⟨j, ds, e1_, h2_⟩ := bindL_elim h
  by_cases j3_ : j = 0
  · have h6_ := (if_pos j3_).symm.trans h2_
    clear h2_
    subst j3_
    obtain ⟨l0, e4_, h7_⟩ := pullD_elim h6_
    clear h6_
    obtain rfl := tup_inj e4_
    have k5_ := gcdR_L1_in0 n m e1_
    obtain ⟨r1, f8_, h9_⟩ := pullD_elim h7_
    replace f8_ := m_62_ok f8_
    obtain rfl := Option.some.inj h9_
    exact con_pc (op := true) (I := [45]) (sp := gcdR_sp) 3000 [] [.tup [iD (Int.ofNat 0), iD l0], iD r1] [] [k_l k5_ [] [.tup [iD (Int.ofNat 0), iD l0], iD r1] [iD r1], k_c f8_] (by kernel_rfl)
  have h10_ := (if_neg j3_).symm.trans h2_
  clear h2_
  cases h10_
def m_45 (ds : List D) : Option D := pullD (α := Int × Int) (some (.tup ds)) (fun d => ((D.vi (D.at d 0)), (D.vi (D.at d 1)))) (fun (n, m) => .tup [iD n, iD m]) fun (n, m) => gcdR_M n m
theorem m_45_ok {ds : List D} {r : D} (h : m_45 ds = some r) : Con 45 ds r := by
  unfold m_45 at h
  obtain ⟨⟨n, m⟩, e0, h0⟩ := pullD_elim h
  obtain rfl := tup_inj e0
  exact gcdR_M_ok n m h0
theorem m_45_eq (n m : Int) : m_45 [iD n, iD m] = gcdR_M n m := pullD_some (n, m) rfl rfl
def lowest_sp : List LSpec := []
def lowest_M (n m : Int) : Option D := pullD (α := Int) (m_45 [iD n, iD m]) (fun d => ((D.vi d))) (fun r0 => iD r0) fun r0 => ((if m < (0 : Int) then guardP (IntKind.i64.wrap ((0 : Int) - r0) ≠ (0 : Int)) (some (.agg [iD (IntKind.i64.wrap (n.tdiv (IntKind.i64.wrap ((0 : Int) - r0)))), iD (IntKind.i64.wrap (m.tdiv (IntKind.i64.wrap ((0 : Int) - r0))))])) else guardP (r0 ≠ (0 : Int)) (some (.agg [iD (IntKind.i64.wrap (n.tdiv r0)), iD (IntKind.i64.wrap (m.tdiv r0))]))))
theorem lowest_M_ok (n m : Int) {r : D} (h : lowest_M n m = some r) : Con 16 [iD n, iD m] r := by
  unfold lowest_M at h
  obtain ⟨r0, f1_, h2_⟩ := pullD_elim h
  replace f1_ := m_45_ok f1_
  by_cases b3_ : m < (0 : Int)
  · have h4_ := (if_pos b3_).symm.trans h2_
    obtain ⟨f5_, h6_⟩ := guardP_elim h4_
    obtain rfl := Option.some.inj h6_
    exact con_pc (op := true) (I := [16]) (sp := lowest_sp) 3000 (bT 1 []) [iD r0] [c_d b3_, c_en f5_, c_en f5_] [k_c f1_] (by kernel_rfl)
  have h4_ := (if_neg b3_).symm.trans h2_
  obtain ⟨f7_, h8_⟩ := guardP_elim h4_
  obtain rfl := Option.some.inj h8_
  exact con_pc (op := true) (I := [16]) (sp := lowest_sp) 3000 (bF 1 []) [iD r0] [c_n b3_, c_en f7_, c_en f7_] [k_c f1_] (by kernel_rfl)
def m_16 (ds : List D) : Option D := pullD (α := Int × Int) (some (.tup ds)) (fun d => ((D.vi (D.at d 0)), (D.vi (D.at d 1)))) (fun (n, m) => .tup [iD n, iD m]) fun (n, m) => lowest_M n m
theorem m_16_ok {ds : List D} {r : D} (h : m_16 ds = some r) : Con 16 ds r := by
  unfold m_16 at h
  obtain ⟨⟨n, m⟩, e0, h0⟩ := pullD_elim h
  obtain rfl := tup_inj e0
  exact lowest_M_ok n m h0
theorem m_16_eq (n m : Int) : m_16 [iD n, iD m] = lowest_M n m := pullD_some (n, m) rfl rfl
def cmpF_sp : List LSpec := []
def cmpF_M (a b c d : Int) : Option D := (if IntKind.i64.wrap (a * d) < IntKind.i64.wrap (c * b) then some (iD (-1 : Int)) else (if IntKind.i64.wrap (a * d) > IntKind.i64.wrap (c * b) then some (iD (1 : Int)) else some (iD (0 : Int))))
theorem cmpF_M_ok (a b c d : Int) {r : D} (h : cmpF_M a b c d = some r) : Con 43 [.agg [iD a, iD b], .agg [iD c, iD d]] r := by
  unfold cmpF_M at h
  by_cases b1_ : IntKind.i64.wrap (a * d) < IntKind.i64.wrap (c * b)
  · have h2_ := (if_pos b1_).symm.trans h
    obtain rfl := Option.some.inj h2_
    exact con_pc (op := true) (I := [43]) (sp := cmpF_sp) 3000 (bT 1 []) [] [c_d b1_] [] (by kernel_rfl)
  have h2_ := (if_neg b1_).symm.trans h
  by_cases b3_ : IntKind.i64.wrap (a * d) > IntKind.i64.wrap (c * b)
  · have h4_ := (if_pos b3_).symm.trans h2_
    obtain rfl := Option.some.inj h4_
    exact con_pc (op := true) (I := [43]) (sp := cmpF_sp) 3000 (bF 1 (bT 1 [])) [] [c_n b1_, c_d b3_] [] (by kernel_rfl)
  have h4_ := (if_neg b3_).symm.trans h2_
  obtain rfl := Option.some.inj h4_
  exact con_pc (op := true) (I := [43]) (sp := cmpF_sp) 3000 (bF 2 []) [] [c_n b1_, c_n b3_] [] (by kernel_rfl)
def m_43 (ds : List D) : Option D := pullD (α := Int × Int × Int × Int) (some (.tup ds)) (fun d => ((D.vi (D.at (D.at d 0) 0)), (D.vi (D.at (D.at d 0) 1)), (D.vi (D.at (D.at d 1) 0)), (D.vi (D.at (D.at d 1) 1)))) (fun (a, b, c, d) => .tup [.agg [iD a, iD b], .agg [iD c, iD d]]) fun (a, b, c, d) => cmpF_M a b c d
theorem m_43_ok {ds : List D} {r : D} (h : m_43 ds = some r) : Con 43 ds r := by
  unfold m_43 at h
  obtain ⟨⟨a, b, c, d⟩, e0, h0⟩ := pullD_elim h
  obtain rfl := tup_inj e0
  exact cmpF_M_ok a b c d h0
theorem m_43_eq (a b c d : Int) : m_43 [.agg [iD a, iD b], .agg [iD c, iD d]] = cmpF_M a b c d := pullD_some (a, b, c, d) rfl rfl
def isSmall_sp : List LSpec := []
def isSmall_M (a b : Int) : Option D := pullD (α := Bool) (m_14 [iD a, iD (-1000000000 : Int), iD (1000000000 : Int)]) (fun d => ((D.vb d))) (fun r0 => .one (.bool r0)) fun r0 => ((if (r0) = true then pullD (α := Bool) (m_14 [iD b, iD (1 : Int), iD (1000000000 : Int)]) (fun d => ((D.vb d))) (fun r1 => .one (.bool r1)) fun r1 => (some (.one (.bool r1))) else some (.one (.bool false))))
theorem isSmall_M_ok (a b : Int) {r : D} (h : isSmall_M a b = some r) : Con 17 [.agg [iD a, iD b]] r := by
  unfold isSmall_M at h
  obtain ⟨r0, f1_, h2_⟩ := pullD_elim h
  replace f1_ := m_14_ok f1_
  by_cases b3_ : (r0) = true
  · have h4_ := (if_pos b3_).symm.trans h2_
    obtain ⟨r1, f5_, h6_⟩ := pullD_elim h4_
    replace f5_ := m_14_ok f5_
    obtain rfl := Option.some.inj h6_
    exact con_pc (op := true) (I := [17]) (sp := isSmall_sp) 3000 (bT 4 []) [.one (.bool r0), .one (.bool r1)] [c_q b3_, c_q b3_, c_q b3_, c_q b3_] [k_c f1_, k_c f5_] (by kernel_rfl)
  have h4_ := (if_neg b3_).symm.trans h2_
  have b7_ : (r0) = false := by first | exact b3_ | simpa using b3_
  obtain rfl := Option.some.inj h4_
  exact con_pc (op := true) (I := [17]) (sp := isSmall_sp) 3000 (bF 4 []) [.one (.bool r0)] [c_q b7_, c_q b7_, c_q b7_, c_q b7_] [k_c f1_] (by kernel_rfl)
def m_17 (ds : List D) : Option D := pullD (α := Int × Int) (some (.tup ds)) (fun d => ((D.vi (D.at (D.at d 0) 0)), (D.vi (D.at (D.at d 0) 1)))) (fun (a, b) => .tup [.agg [iD a, iD b]]) fun (a, b) => isSmall_M a b
theorem m_17_ok {ds : List D} {r : D} (h : m_17 ds = some r) : Con 17 ds r := by
  unfold m_17 at h
  obtain ⟨⟨a, b⟩, e0, h0⟩ := pullD_elim h
  obtain rfl := tup_inj e0
  exact isSmall_M_ok a b h0
theorem m_17_eq (a b : Int) : m_17 [.agg [iD a, iD b]] = isSmall_M a b := pullD_some (a, b) rfl rfl
def slopeR_sp : List LSpec := []
def slopeR_M (ka : Nat) (ca : List D) (n : Int) : Option D := guardP ((0 : Int) ≤ IntKind.i64.wrap (n + (1 : Int)) ∧ (IntKind.i64.wrap (n + (1 : Int))).toNat < ka) (guardP (0 < ka) (pullD (α := Int) (readD ca ((IntKind.i64.wrap (n + (1 : Int))).toNat * 2 + 1) 1 false) (fun d => ((D.vi d))) (fun v0 => iD v0) fun v0 => (guardP ((0 : Int) ≤ n ∧ n.toNat < ka) (pullD (α := Int) (readD ca (n.toNat * 2 + 1) 1 false) (fun d => ((D.vi d))) (fun v1 => iD v1) fun v1 => (pullD (α := Int) (m_62 [iD (IntKind.i64.wrap (v0 - v1))]) (fun d => ((D.vi d))) (fun r2 => iD r2) fun r2 => (pullD (α := Int) (readD ca ((IntKind.i64.wrap (n + (1 : Int))).toNat * 2 + 0) 1 false) (fun d => ((D.vi d))) (fun v3 => iD v3) fun v3 => (pullD (α := Int) (readD ca (n.toNat * 2 + 0) 1 false) (fun d => ((D.vi d))) (fun v4 => iD v4) fun v4 => (pullD (α := Int × Int) (m_16 [iD r2, iD (IntKind.i64.wrap (v3 - v4))]) (fun d => ((D.vi (D.at d 0)), (D.vi (D.at d 1)))) (fun (r5, r6) => .agg [iD r5, iD r6]) fun (r5, r6) => (some (.agg [iD r5, iD r6]))))))))))
theorem slopeR_M_ok (ka : Nat) (ca : List D) (n : Int) {r : D} (h : slopeR_M ka ca n = some r) : Con 44 [.agg [.list ka ca], iD n] r := by
  unfold slopeR_M at h
  obtain ⟨f1_, h2_⟩ := guardP_elim h
  obtain ⟨f3_, h4_⟩ := guardP_elim h2_
  obtain ⟨v0, f5_, h6_⟩ := pullD_elim h4_
  replace f5_ := readD_elim f5_
  obtain ⟨f7_, h8_⟩ := guardP_elim h6_
  obtain ⟨v1, f9_, h10_⟩ := pullD_elim h8_
  replace f9_ := readD_elim f9_
  obtain ⟨r2, f11_, h12_⟩ := pullD_elim h10_
  replace f11_ := m_62_ok f11_
  obtain ⟨v3, f13_, h14_⟩ := pullD_elim h12_
  replace f13_ := readD_elim f13_
  obtain ⟨v4, f15_, h16_⟩ := pullD_elim h14_
  replace f15_ := readD_elim f15_
  obtain ⟨⟨r5, r6⟩, f17_, h18_⟩ := pullD_elim h16_
  replace f17_ := m_16_ok f17_
  obtain rfl := Option.some.inj h18_
  exact con_pc (op := true) (I := [44]) (sp := slopeR_sp) 3000 [] [iD v0, iD v1, iD r2, iD v3, iD v4, .agg [iD r5, iD r6]] [c_f f1_, c_f f3_, c_f f5_, c_f f7_, c_f f3_, c_f f9_, c_f f1_, c_f f3_, c_f f13_, c_f f7_, c_f f3_, c_f f15_] [k_c f11_, k_c f17_] (by kernel_rfl)
def m_44 (ds : List D) : Option D := pullD (α := Nat × (List D) × Int) (some (.tup ds)) (fun d => ((D.ln (D.at (D.at d 0) 0)), (D.lc (D.at (D.at d 0) 0)), (D.vi (D.at d 1)))) (fun (ka, ca, n) => .tup [.agg [.list ka ca], iD n]) fun (ka, ca, n) => slopeR_M ka ca n
theorem m_44_ok {ds : List D} {r : D} (h : m_44 ds = some r) : Con 44 ds r := by
  unfold m_44 at h
  obtain ⟨⟨ka, ca, n⟩, e0, h0⟩ := pullD_elim h
  obtain rfl := tup_inj e0
  exact slopeR_M_ok ka ca n h0
theorem m_44_eq (ka : Nat) (ca : List D) (n : Int) : m_44 [.agg [.list ka ca], iD n] = slopeR_M ka ca n := pullD_some (ka, ca, n) rfl rfl
def steepR_x3_0 : LExit := ⟨some 0, [.val 4], (List.range' 5 18)⟩
def steepR_sp : List LSpec := [⟨13, 3, [steepR_x3_0]⟩]
def steepR_L3_E (ka : Nat) (ca : List D)  : List AV × AHeap := ([.agg [.dsl 0], .ptr 1 0, .pure (.int .i64 (0 : Int)), .ptr 2 0, .pure (.int .i64 (0 : Int)), .pure (.int .i64 (1 : Int)), .pure (.tuple #[]), .pure (.tuple #[]), .pure (.tuple #[]), .pure (.tuple #[]), .pure (.tuple #[]), .pure (.tuple #[]), .pure (.tuple #[]), .pure (.tuple #[]), .pure (.tuple #[]), .pure (.tuple #[]), .pure (.tuple #[]), .pure (.tuple #[]), .pure (.tuple #[]), .pure (.tuple #[]), .pure (.tuple #[]), .pure (.tuple #[]), .pure (.tuple #[]), .pure (.tuple #[]), .pure (.tuple #[]), .pure (.tuple #[]), .pure (.tuple #[])], [(2, { cells := [.pure (.int .i64 (0 : Int)), .pure (.int .i64 (0 : Int))], opn := none, kind := .cells }), (1, { cells := [.dsl 0], opn := none, kind := .cells }), (0, { cells := [], opn := none, kind := .deep ka ca })])
def steepR_L3_A : LoopAt := ⟨13, loopAt Try.prog 13 0, 3, 22, 3, noFrame⟩
theorem steepR_L3_ok : (steepR_L3_A).OK := ⟨by show 3 ≤ 22; decide, by show 3 ≤ 3; decide, by kernel_rfl, rfl⟩
def steepR_L3_gs (ka : Nat) (ca : List D)  : Go.Ev.Rd → Option GS
  | .next 0 ds => ghost [.val 4, .val 5] (List.range' 6 17) (steepR_L3_E ka ca).1 (steepR_L3_E ka ca).2 3 ds
  | .out 0 ds => ghost steepR_x3_0.live steepR_x3_0.junk (steepR_L3_E ka ca).1 (steepR_L3_E ka ca).2 3 ds
  | _ => none
def steepR_L3_ex : Nat → Option Nat
  | 0 => steepR_x3_0.ex
  | _ => none
def steepR_L3_ax : Go.Ev.Rd → AX
  | .next _ _ => .normal
  | .out j _ => axOf (steepR_L3_ex j)
def steepR_L3_S0 (ka : Nat) (ca : List D)  (ds : List D) : Option Go.Ev.Rd := pullD (α := Int × Int) (some (.tup ds)) (fun d => ((D.vi (D.at d 0)), (D.vi (D.at d 1)))) (fun (s4, s5) => .tup [iD s4, iD s5]) fun (s4, s5) => ((if IntKind.i64.wrap (s5 + (1 : Int)) < (ka : Int) then pullD (α := Int × Int) (m_44 [.agg [.list ka ca], iD s5]) (fun d => ((D.vi (D.at d 0)), (D.vi (D.at d 1)))) (fun (r0, r1) => .agg [iD r0, iD r1]) fun (r0, r1) => (pullD (α := Int × Int) (m_44 [.agg [.list ka ca], iD s4]) (fun d => ((D.vi (D.at d 0)), (D.vi (D.at d 1)))) (fun (r2, r3) => .agg [iD r2, iD r3]) fun (r2, r3) => (pullD (α := Int) (m_43 [.agg [iD r0, iD r1], .agg [iD r2, iD r3]]) (fun d => ((D.vi d))) (fun r4 => iD r4) fun r4 => ((if r4 > (0 : Int) then some (.next 0 [iD s5, iD (IntKind.i64.wrap (s5 + (1 : Int)))]) else some (.next 0 [iD s4, iD (IntKind.i64.wrap (s5 + (1 : Int)))]))))) else some (.out 0 [iD s4])))
def steepR_L3_S (ka : Nat) (ca : List D)  : Go.Ev.Rd → Option Go.Ev.Rd
  | .next 0 ds => steepR_L3_S0 ka ca ds
  | _ => none
theorem steepR_L3_S_0 (ka : Nat) (ca : List D)  (ds : List D) : steepR_L3_S ka ca (.next 0 ds) = steepR_L3_S0 ka ca ds := rfl
theorem steepR_L3_S_ok (ka : Nat) (ca : List D)  : ∀ s_ t_, steepR_L3_S ka ca s_ = some t_ → Step (ctx [13] steepR_sp) Tabs steepR_L3_A (stateOf (steepR_L3_gs ka ca s_)) (stateOf (steepR_L3_gs ka ca t_)) (steepR_L3_ax t_) ∧ EndOK steepR_L3_A.nx steepR_L3_A.low (steepR_L3_gs ka ca) t_
  | .next 0 ds, t_, h => by
    have h_ : steepR_L3_S0 ka ca ds = some t_ := h
    clear h
    unfold steepR_L3_S0 at h_
    obtain ⟨⟨s4, s5⟩, e0, h0⟩ := pullD_elim h_
    clear h_
    obtain rfl := tup_inj e0
    by_cases b1_ : IntKind.i64.wrap (s5 + (1 : Int)) < (ka : Int)
    · have h2_ := (if_pos b1_).symm.trans h0
      obtain ⟨⟨r0, r1⟩, f3_, h4_⟩ := pullD_elim h2_
      replace f3_ := m_44_ok f3_
      obtain ⟨⟨r2, r3⟩, f5_, h6_⟩ := pullD_elim h4_
      replace f5_ := m_44_ok f5_
      obtain ⟨r4, f7_, h8_⟩ := pullD_elim h6_
      replace f7_ := m_43_ok f7_
      by_cases b9_ : r4 > (0 : Int)
      · have h10_ := (if_pos b9_).symm.trans h8_
        obtain rfl := Option.some.inj h10_
        exact ⟨step_pc 3000 (bT 2 []) [.agg [iD r0, iD r1], .agg [iD r2, iD r3], iD r4] [c_d b1_, c_d b9_] [k_c f3_, k_c f5_, k_c f7_] _ rfl (by kernel_rfl) (by kernel_rfl) (by kernel_rfl) (by kernel_rfl) (by kernel_rfl) (by kernel_rfl), trivial⟩
      have h10_ := (if_neg b9_).symm.trans h8_
      obtain rfl := Option.some.inj h10_
      exact ⟨step_pc 3000 (bT 1 (bF 1 [])) [.agg [iD r0, iD r1], .agg [iD r2, iD r3], iD r4] [c_d b1_, c_n b9_] [k_c f3_, k_c f5_, k_c f7_] _ rfl (by kernel_rfl) (by kernel_rfl) (by kernel_rfl) (by kernel_rfl) (by kernel_rfl) (by kernel_rfl), trivial⟩
    have h2_ := (if_neg b1_).symm.trans h0
    obtain rfl := Option.some.inj h2_
    exact ⟨step_pc 3000 (bF 1 []) [] [c_n b1_] [] _ rfl (by kernel_rfl) (by kernel_rfl) (by kernel_rfl) (by kernel_rfl) (by kernel_rfl) (by kernel_rfl), by kernel_rfl, by kernel_rfl⟩
  | .next (_ + 1) _, _, h => by cases h
  | .out _ _, _, h => by cases h
theorem steepR_L3_go (ka : Nat) (ca : List D)  {q : Nat} {ds : List D} {j : Nat} {es : List D} (h : runR (steepR_L3_S ka ca) (.next q ds) = some (.out j es)) : Runs (ctx [13] steepR_sp) Tabs steepR_L3_A (stateOf (steepR_L3_gs ka ca (.next q ds))) (stateOf (steepR_L3_gs ka ca (.out j es))) (steepR_L3_ax (.out j es)) ∧ (nxtOf (steepR_L3_gs ka ca (.out j es)), lowGS (steepR_L3_gs ka ca (.out j es))) = (steepR_L3_A.nx, steepR_L3_A.low) :=
  runs_of' (good true _ _) steepR_L3_ok (ax := steepR_L3_ax) (fun _ _ => rfl) (fun _ _ => axOf_end _) (steepR_L3_S_ok ka ca) h
theorem steepR_L3_in0 (ka : Nat) (ca : List D)  {es : List D} (h : runR (steepR_L3_S ka ca) (.next 0 [iD ((0 : Int)), iD ((1 : Int))]) = some (.out 0 es)) : LoopC (loopAt Try.prog 13 0) (steepR_L3_E ka ca) 3 noFrame steepR_x3_0 es :=
  have r := steepR_L3_go ka ca h
  loopin_as rfl (loop_in (l := steepR_L3_A) (E := (steepR_L3_E ka ca)) (S := stateOf (steepR_L3_gs ka ca (.next 0 [iD ((0 : Int)), iD ((1 : Int))]))) (ns := nsOf (steepR_L3_gs ka ca (.next 0 [iD ((0 : Int)), iD ((1 : Int))]))) steepR_L3_ok r.1 r.2 (by kernel_rfl) (by kernel_rfl) (by kernel_rfl) (by kernel_rfl))
def steepR_M (ka : Nat) (ca : List D) : Option D := bindL (runR (steepR_L3_S ka ca) (.next 0 [iD ((0 : Int)), iD ((1 : Int))])) fun j ds => (if j = 0 then pullD (α := Int) (some (.tup ds)) (fun d => ((D.vi (D.at d 0)))) (fun l0 => .tup [iD l0]) fun l0 => (pullD (α := Int × Int) (m_44 [.agg [.list ka ca], iD l0]) (fun d => ((D.vi (D.at d 0)), (D.vi (D.at d 1)))) (fun (r1, r2) => .agg [iD r1, iD r2]) fun (r1, r2) => (some (.tup [iD l0, .agg [iD r1, iD r2]]))) else none)
theorem steepR_M_ok (ka : Nat) (ca : List D) {r : D} (h : steepR_M ka ca = some r) : Con 13 [.agg [.list ka ca]] r := by
  unfold steepR_M at h
  obtain ⟨j, ds, e1_, h2_⟩ := bindL_elim h
  by_cases j3_ : j = 0
  · have h6_ := (if_pos j3_).symm.trans h2_
    clear h2_
    subst j3_
    obtain ⟨l0, e4_, h7_⟩ := pullD_elim h6_
    clear h6_
    obtain rfl := tup_inj e4_
    have k5_ := steepR_L3_in0 ka ca e1_
    obtain ⟨⟨r1, r2⟩, f8_, h9_⟩ := pullD_elim h7_
    replace f8_ := m_44_ok f8_
    obtain rfl := Option.some.inj h9_
    exact con_pc (op := true) (I := [13]) (sp := steepR_sp) 3000 [] [.tup [iD (Int.ofNat 0), iD l0], .agg [iD r1, iD r2]] [] [k_l k5_ [] [.tup [iD (Int.ofNat 0), iD l0], .agg [iD r1, iD r2]] [.agg [iD r1, iD r2]], k_c f8_] (by kernel_rfl)
  have h10_ := (if_neg j3_).symm.trans h2_
  clear h2_
  cases h10_
def m_13 (ds : List D) : Option D := pullD (α := Nat × (List D)) (some (.tup ds)) (fun d => ((D.ln (D.at (D.at d 0) 0)), (D.lc (D.at (D.at d 0) 0)))) (fun (ka, ca) => .tup [.agg [.list ka ca]]) fun (ka, ca) => steepR_M ka ca
theorem m_13_ok {ds : List D} {r : D} (h : m_13 ds = some r) : Con 13 ds r := by
  unfold m_13 at h
  obtain ⟨⟨ka, ca⟩, e0, h0⟩ := pullD_elim h
  obtain rfl := tup_inj e0
  exact steepR_M_ok ka ca h0
theorem m_13_eq (ka : Nat) (ca : List D) : m_13 [.agg [.list ka ca]] = steepR_M ka ca := pullD_some (ka, ca) rfl rfl
end
end Go.Proofs.Ytaabapmggkkmeaa
namespace Go.Proofs.Ytaabapmggkkmeaa
open Go.Ev Go.RowKit
set_option maxRecDepth 100000
set_option maxHeartbeats 8000000
set_option linter.all false
noncomputable section
def valueR_x7_0 : LExit := ⟨some 0, [.val 7], (List.range' 37 11)⟩
def valueR_sp : List LSpec := [⟨15, 7, [valueR_x7_0]⟩]
def valueR_L7_E (ka : Nat) (ca : List D) (tm : Int) (x0 : Int) (x1 : Int) : List AV × AHeap := ([.agg [.dsl 0], .pure (.int .i64 tm), .ptr 1 0, .pure (.tuple #[]), .pure (.int .i64 (0 : Int)), .pure (.int .i64 (0 : Int)), .pure (.int .i64 (ka : Int)), .pure (.int .i64 (0 : Int)), .pure (.tuple #[]), .pure (.tuple #[]), .pure (.tuple #[]), .ptr 1 0, .dsl 0, .pure (.int .i64 (ka : Int)), .pure (.int .i64 tm), .ptr 1 0, .dsl 0, .dptr 0 0, .dptr 0 0, .pure (.int .i64 x0), .pure (.bool (decide (tm < x0))), .pure (.int .i64 tm), .ptr 1 0, .dsl 0, .pure (.int .i64 (ka : Int)), .pure (.int .i64 (IntKind.i64.wrap ((ka : Int) - (1 : Int)))), .dptr 0 ((IntKind.i64.wrap ((ka : Int) - (1 : Int))).toNat * 2), .dptr 0 ((IntKind.i64.wrap ((ka : Int) - (1 : Int))).toNat * 2 + 0), .pure (.int .i64 x1), .pure (.bool (decide (tm ≥ x1))), .pure (.tuple #[]), .pure (.tuple #[]), .pure (.tuple #[]), .pure (.tuple #[]), .pure (.tuple #[]), .pure (.tuple #[]), .pure (.tuple #[]), .pure (.tuple #[]), .pure (.tuple #[]), .pure (.tuple #[]), .pure (.tuple #[]), .pure (.tuple #[]), .pure (.tuple #[]), .pure (.tuple #[]), .pure (.tuple #[]), .pure (.tuple #[]), .pure (.tuple #[]), .pure (.tuple #[]), .pure (.tuple #[]), .pure (.tuple #[]), .pure (.tuple #[]), .pure (.tuple #[]), .pure (.tuple #[]), .pure (.tuple #[]), .pure (.tuple #[]), .pure (.tuple #[]), .pure (.tuple #[]), .pure (.tuple #[]), .pure (.tuple #[]), .pure (.tuple #[]), .pure (.tuple #[]), .pure (.tuple #[]), .pure (.tuple #[]), .pure (.tuple #[]), .pure (.tuple #[]), .pure (.tuple #[]), .pure (.tuple #[]), .pure (.tuple #[]), .pure (.tuple #[]), .pure (.tuple #[]), .pure (.tuple #[]), .pure (.tuple #[]), .pure (.tuple #[]), .pure (.tuple #[]), .pure (.tuple #[]), .pure (.tuple #[]), .pure (.tuple #[]), .pure (.tuple #[]), .pure (.tuple #[]), .pure (.tuple #[])], [(1, { cells := [.dsl 0], opn := none, kind := .cells }), (0, { cells := [], opn := none, kind := .deep ka ca })])
def valueR_L7_A : LoopAt := ⟨15, loopAt Try.prog 15 0, 2, 14, 2, noFrame⟩
theorem valueR_L7_ok : (valueR_L7_A).OK := ⟨by show 2 ≤ 14; decide, by show 2 ≤ 2; decide, by kernel_rfl, rfl⟩
def valueR_L7_gs (ka : Nat) (ca : List D) (tm : Int) (x0 : Int) (x1 : Int) : Go.Ev.Rd → Option GS
  | .next 0 ds => ghost [.val 7] (List.range' 37 11) (valueR_L7_E ka ca tm x0 x1).1 (valueR_L7_E ka ca tm x0 x1).2 2 ds
  | .out 0 ds => ghost valueR_x7_0.live valueR_x7_0.junk (valueR_L7_E ka ca tm x0 x1).1 (valueR_L7_E ka ca tm x0 x1).2 2 ds
  | _ => none
def valueR_L7_ex : Nat → Option Nat
  | 0 => valueR_x7_0.ex
  | _ => none
def valueR_L7_ax : Go.Ev.Rd → AX
  | .next _ _ => .normal
  | .out j _ => axOf (valueR_L7_ex j)
def valueR_L7_S0 (ka : Nat) (ca : List D) (tm : Int) (x0 : Int) (x1 : Int) (ds : List D) : Option Go.Ev.Rd := pullD (α := Int) (some (.tup ds)) (fun d => ((D.vi (D.at d 0)))) (fun s7 => .tup [iD s7]) fun s7 => (guardP ((0 : Int) ≤ IntKind.i64.wrap (s7 + (1 : Int)) ∧ (IntKind.i64.wrap (s7 + (1 : Int))).toNat < ka) (guardP (0 < ka) (pullD (α := Int) (readD ca ((IntKind.i64.wrap (s7 + (1 : Int))).toNat * 2 + 0) 1 false) (fun d => ((D.vi d))) (fun v0 => iD v0) fun v0 => ((if v0 ≤ tm then some (.next 0 [iD (IntKind.i64.wrap (s7 + (1 : Int)))]) else some (.out 0 [iD s7]))))))
def valueR_L7_S (ka : Nat) (ca : List D) (tm : Int) (x0 : Int) (x1 : Int) : Go.Ev.Rd → Option Go.Ev.Rd
  | .next 0 ds => valueR_L7_S0 ka ca tm x0 x1 ds
  | _ => none
theorem valueR_L7_S_0 (ka : Nat) (ca : List D) (tm : Int) (x0 : Int) (x1 : Int) (ds : List D) : valueR_L7_S ka ca tm x0 x1 (.next 0 ds) = valueR_L7_S0 ka ca tm x0 x1 ds := rfl
theorem valueR_L7_S_ok (ka : Nat) (ca : List D) (tm : Int) (x0 : Int) (x1 : Int) : ∀ s_ t_, valueR_L7_S ka ca tm x0 x1 s_ = some t_ → Step (ctx [15] valueR_sp) Tabs valueR_L7_A (stateOf (valueR_L7_gs ka ca tm x0 x1 s_)) (stateOf (valueR_L7_gs ka ca tm x0 x1 t_)) (valueR_L7_ax t_) ∧ EndOK valueR_L7_A.nx valueR_L7_A.low (valueR_L7_gs ka ca tm x0 x1) t_
  | .next 0 ds, t_, h => by
    have h_ : valueR_L7_S0 ka ca tm x0 x1 ds = some t_ := h
    clear h
    unfold valueR_L7_S0 at h_
    obtain ⟨s7, e0, h0⟩ := pullD_elim h_
    clear h_
    obtain rfl := tup_inj e0
    obtain ⟨f1_, h2_⟩ := guardP_elim h0
    obtain ⟨f3_, h4_⟩ := guardP_elim h2_
    obtain ⟨v0, f5_, h6_⟩ := pullD_elim h4_
    replace f5_ := readD_elim f5_
    by_cases b7_ : v0 ≤ tm
    · have h8_ := (if_pos b7_).symm.trans h6_
      obtain rfl := Option.some.inj h8_
      exact ⟨step_pc 3000 (bT 1 []) [iD v0] [c_f f1_, c_f f3_, c_f f5_, c_d b7_] [] _ rfl (by kernel_rfl) (by kernel_rfl) (by kernel_rfl) (by kernel_rfl) (by kernel_rfl) (by kernel_rfl), trivial⟩
    have h8_ := (if_neg b7_).symm.trans h6_
    obtain rfl := Option.some.inj h8_
    exact ⟨step_pc 3000 (bF 1 []) [iD v0] [c_f f1_, c_f f3_, c_f f5_, c_n b7_] [] _ rfl (by kernel_rfl) (by kernel_rfl) (by kernel_rfl) (by kernel_rfl) (by kernel_rfl) (by kernel_rfl), by kernel_rfl, by kernel_rfl⟩
  | .next (_ + 1) _, _, h => by cases h
  | .out _ _, _, h => by cases h
theorem valueR_L7_go (ka : Nat) (ca : List D) (tm : Int) (x0 : Int) (x1 : Int) {q : Nat} {ds : List D} {j : Nat} {es : List D} (h : runR (valueR_L7_S ka ca tm x0 x1) (.next q ds) = some (.out j es)) : Runs (ctx [15] valueR_sp) Tabs valueR_L7_A (stateOf (valueR_L7_gs ka ca tm x0 x1 (.next q ds))) (stateOf (valueR_L7_gs ka ca tm x0 x1 (.out j es))) (valueR_L7_ax (.out j es)) ∧ (nxtOf (valueR_L7_gs ka ca tm x0 x1 (.out j es)), lowGS (valueR_L7_gs ka ca tm x0 x1 (.out j es))) = (valueR_L7_A.nx, valueR_L7_A.low) :=
  runs_of' (good true _ _) valueR_L7_ok (ax := valueR_L7_ax) (fun _ _ => rfl) (fun _ _ => axOf_end _) (valueR_L7_S_ok ka ca tm x0 x1) h
theorem valueR_L7_in0 (ka : Nat) (ca : List D) (tm : Int) (x0 : Int) (x1 : Int) {es : List D} (h : runR (valueR_L7_S ka ca tm x0 x1) (.next 0 [iD ((0 : Int))]) = some (.out 0 es)) : LoopC (loopAt Try.prog 15 0) (valueR_L7_E ka ca tm x0 x1) 2 noFrame valueR_x7_0 es :=
  have r := valueR_L7_go ka ca tm x0 x1 h
  loopin_as rfl (loop_in (l := valueR_L7_A) (E := (valueR_L7_E ka ca tm x0 x1)) (S := stateOf (valueR_L7_gs ka ca tm x0 x1 (.next 0 [iD ((0 : Int))]))) (ns := nsOf (valueR_L7_gs ka ca tm x0 x1 (.next 0 [iD ((0 : Int))]))) valueR_L7_ok r.1 r.2 (by kernel_rfl) (by kernel_rfl) (by kernel_rfl) (by kernel_rfl))
def valueR_M (ka : Nat) (ca : List D) (tm : Int) : Option D := guardP ((0 : Int) ≤ (0 : Int) ∧ Int.toNat (0 : Int) < ka) (guardP (0 < ka) (pullD (α := Int) (readD ca (Int.toNat (0 : Int) * 2 + 0) 1 false) (fun d => ((D.vi d))) (fun v0 => iD v0) fun v0 => ((if tm < v0 then some (.tup [iD (0 : Int), iD (1 : Int)]) else guardP ((0 : Int) ≤ IntKind.i64.wrap ((ka : Int) - (1 : Int)) ∧ (IntKind.i64.wrap ((ka : Int) - (1 : Int))).toNat < ka) (pullD (α := Int) (readD ca ((IntKind.i64.wrap ((ka : Int) - (1 : Int))).toNat * 2 + 0) 1 false) (fun d => ((D.vi d))) (fun v1 => iD v1) fun v1 => ((if tm ≥ v1 then pullD (α := Int) (readD ca ((IntKind.i64.wrap ((ka : Int) - (1 : Int))).toNat * 2 + 1) 1 false) (fun d => ((D.vi d))) (fun v2 => iD v2) fun v2 => (some (.tup [iD v2, iD (1 : Int)])) else bindL (runR (valueR_L7_S ka ca tm v0 v1) (.next 0 [iD ((0 : Int))])) fun j ds => (if j = 0 then pullD (α := Int) (some (.tup ds)) (fun d => ((D.vi (D.at d 0)))) (fun l3 => .tup [iD l3]) fun l3 => (guardP ((0 : Int) ≤ l3 ∧ l3.toNat < ka) (pullD (α := Int × Int) (readD ca (l3.toNat * 2) 2 true) (fun d => ((D.vi (D.at d 0)), (D.vi (D.at d 1)))) (fun (v4, v5) => .agg [iD v4, iD v5]) fun (v4, v5) => (guardP ((0 : Int) ≤ IntKind.i64.wrap (l3 + (1 : Int)) ∧ (IntKind.i64.wrap (l3 + (1 : Int))).toNat < ka) (pullD (α := Int × Int) (readD ca ((IntKind.i64.wrap (l3 + (1 : Int))).toNat * 2) 2 true) (fun d => ((D.vi (D.at d 0)), (D.vi (D.at d 1)))) (fun (v6, v7) => .agg [iD v6, iD v7]) fun (v6, v7) => (some (.tup [iD (IntKind.i64.wrap (IntKind.i64.wrap (v5 * IntKind.i64.wrap (v6 - v4)) + IntKind.i64.wrap (IntKind.i64.wrap (v7 - v5) * IntKind.i64.wrap (tm - v4)))), iD (IntKind.i64.wrap (v6 - v4))])))))) else none))))))))
theorem valueR_M_ok (ka : Nat) (ca : List D) (tm : Int) {r : D} (h : valueR_M ka ca tm = some r) : Con 15 [.agg [.list ka ca], iD tm] r := by
  unfold valueR_M at h
  obtain ⟨f1_, h2_⟩ := guardP_elim h
  obtain ⟨f3_, h4_⟩ := guardP_elim h2_
  obtain ⟨v0, f5_, h6_⟩ := pullD_elim h4_
  replace f5_ := readD_elim f5_
  by_cases b7_ : tm < v0
  · have h8_ := (if_pos b7_).symm.trans h6_
    obtain rfl := Option.some.inj h8_
    exact con_pc (op := true) (I := [15]) (sp := valueR_sp) 3000 (bT 1 []) [iD v0] [c_f f1_, c_f f3_, c_f f5_, c_d b7_] [] (by kernel_rfl)
  have h8_ := (if_neg b7_).symm.trans h6_
  obtain ⟨f9_, h10_⟩ := guardP_elim h8_
  obtain ⟨v1, f11_, h12_⟩ := pullD_elim h10_
  replace f11_ := readD_elim f11_
  by_cases b13_ : tm ≥ v1
  · have h14_ := (if_pos b13_).symm.trans h12_
    obtain ⟨v2, f15_, h16_⟩ := pullD_elim h14_
    replace f15_ := readD_elim f15_
    obtain rfl := Option.some.inj h16_
    exact con_pc (op := true) (I := [15]) (sp := valueR_sp) 3000 (bF 1 (bT 1 [])) [iD v0, iD v1, iD v2] [c_f f1_, c_f f3_, c_f f5_, c_n b7_, c_f f9_, c_f f3_, c_f f11_, c_d b13_, c_f f9_, c_f f3_, c_f f15_] [] (by kernel_rfl)
  have h14_ := (if_neg b13_).symm.trans h12_
  obtain ⟨j, ds, e17_, h18_⟩ := bindL_elim h14_
  by_cases j19_ : j = 0
  · have h22_ := (if_pos j19_).symm.trans h18_
    clear h18_
    subst j19_
    obtain ⟨l3, e20_, h23_⟩ := pullD_elim h22_
    clear h22_
    obtain rfl := tup_inj e20_
    have k21_ := valueR_L7_in0 ka ca tm v0 v1 e17_
    obtain ⟨f24_, h25_⟩ := guardP_elim h23_
    obtain ⟨⟨v4, v5⟩, f26_, h27_⟩ := pullD_elim h25_
    replace f26_ := readD_elim f26_
    obtain ⟨f28_, h29_⟩ := guardP_elim h27_
    obtain ⟨⟨v6, v7⟩, f30_, h31_⟩ := pullD_elim h29_
    replace f30_ := readD_elim f30_
    obtain rfl := Option.some.inj h31_
    exact con_pc (op := true) (I := [15]) (sp := valueR_sp) 3000 (bF 2 []) [iD v0, iD v1, .tup [iD (Int.ofNat 0), iD l3], .agg [iD v4, iD v5], .agg [iD v6, iD v7]] [c_f f1_, c_f f3_, c_f f5_, c_n b7_, c_f f9_, c_f f3_, c_f f11_, c_n b13_, c_f f24_, c_f f26_, c_f f28_, c_f f30_] [k_l k21_ [] [.tup [iD (Int.ofNat 0), iD l3], .agg [iD v4, iD v5], .agg [iD v6, iD v7]] [.agg [iD v4, iD v5], .agg [iD v6, iD v7]]] (by kernel_rfl)
  have h32_ := (if_neg j19_).symm.trans h18_
  clear h18_
  cases h32_
def m_15 (ds : List D) : Option D := pullD (α := Nat × (List D) × Int) (some (.tup ds)) (fun d => ((D.ln (D.at (D.at d 0) 0)), (D.lc (D.at (D.at d 0) 0)), (D.vi (D.at d 1)))) (fun (ka, ca, tm) => .tup [.agg [.list ka ca], iD tm]) fun (ka, ca, tm) => valueR_M ka ca tm
theorem m_15_ok {ds : List D} {r : D} (h : m_15 ds = some r) : Con 15 ds r := by
  unfold m_15 at h
  obtain ⟨⟨ka, ca, tm⟩, e0, h0⟩ := pullD_elim h
  obtain rfl := tup_inj e0
  exact valueR_M_ok ka ca tm h0
theorem m_15_eq (ka : Nat) (ca : List D) (tm : Int) : m_15 [.agg [.list ka ca], iD tm] = valueR_M ka ca tm := pullD_some (ka, ca, tm) rfl rfl
end
end Go.Proofs.Ytaabapmggkkmeaa
namespace Go.Proofs.Ytaabapmggkkmeaa
open Go.Ev Go.RowKit
set_option maxRecDepth 100000
set_option maxHeartbeats 8000000
set_option linter.all false
noncomputable section
def choppedR_x5_0 : LExit := ⟨some 0, [.cgrow 8 0 2], (9 :: (List.range' 36 25))⟩
def choppedR_x5_1 : LExit := ⟨some 0, [.cnil 8 0], (9 :: (List.range' 36 25))⟩
def choppedR_sp : List LSpec := [⟨23, 5, [choppedR_x5_0, choppedR_x5_1]⟩]
def choppedR_L5_E (ka : Nat) (ca : List D) (tm fl : Int) (x0 : Int) (x1 : Int) (x2 : Bool) (x3 : Bool) : List AV × AHeap := ([.agg [.dsl 0], .pure (.int .i64 tm), .pure (.int .i64 fl), .ptr 1 0, .pure (.tuple #[]), .pure (.tuple #[]), .ptr 2 0, .pure (.int .i64 (0 : Int)), .ptr 3 0, .pure (.int .i64 (0 : Int)), .pure (.tuple #[]), .pure (.tuple #[]), .pure (.int .i64 tm), .ptr 1 0, .dsl 0, .dptr 0 0, .dptr 0 0, .pure (.int .i64 x0), .pure (.int .i64 (IntKind.i64.wrap (x0 + (1 : Int)))), .ptr 1 0, .dsl 0, .ptr 1 0, .dsl 0, .pure (.int .i64 (ka : Int)), .pure (.int .i64 (IntKind.i64.wrap ((ka : Int) - (1 : Int)))), .dptr 0 ((IntKind.i64.wrap ((ka : Int) - (1 : Int))).toNat * 2), .dptr 0 ((IntKind.i64.wrap ((ka : Int) - (1 : Int))).toNat * 2 + 0), .pure (.int .i64 x1), .pure (.bool x2), .pure (.bool !x2), .pure (.bool !x2), .pure (.int .i64 fl), .pure (.bool x3), .pure (.bool !x3), .pure (.bool !x3), .pure (.tuple #[]), .pure (.tuple #[]), .pure (.tuple #[]), .pure (.tuple #[]), .pure (.tuple #[]), .pure (.tuple #[]), .pure (.tuple #[]), .pure (.tuple #[]), .pure (.tuple #[]), .pure (.tuple #[]), .pure (.tuple #[]), .pure (.tuple #[]), .pure (.tuple #[]), .pure (.tuple #[]), .pure (.tuple #[]), .pure (.tuple #[]), .pure (.tuple #[]), .pure (.tuple #[]), .pure (.tuple #[]), .pure (.tuple #[]), .pure (.tuple #[]), .pure (.tuple #[]), .pure (.tuple #[]), .pure (.tuple #[]), .pure (.tuple #[]), .pure (.tuple #[]), .pure (.tuple #[]), .pure (.tuple #[]), .pure (.tuple #[]), .pure (.tuple #[]), .pure (.tuple #[]), .pure (.tuple #[]), .pure (.tuple #[]), .pure (.tuple #[]), .pure (.tuple #[]), .pure (.tuple #[]), .pure (.tuple #[]), .pure (.tuple #[]), .pure (.tuple #[]), .pure (.tuple #[]), .pure (.tuple #[]), .pure (.tuple #[]), .pure (.tuple #[]), .pure (.tuple #[]), .pure (.tuple #[]), .pure (.tuple #[]), .pure (.tuple #[]), .pure (.tuple #[]), .pure (.tuple #[]), .pure (.tuple #[]), .pure (.tuple #[]), .pure (.tuple #[]), .pure (.tuple #[]), .pure (.tuple #[]), .pure (.tuple #[]), .pure (.tuple #[]), .pure (.tuple #[]), .pure (.tuple #[]), .pure (.tuple #[]), .pure (.tuple #[]), .pure (.tuple #[]), .pure (.tuple #[]), .pure (.tuple #[])], [(3, { cells := [.pure (.slice none 0 0)], opn := none, kind := .cells }), (2, { cells := [.pure (.slice none 0 0)], opn := none, kind := .cells }), (1, { cells := [.dsl 0], opn := none, kind := .cells }), (0, { cells := [], opn := none, kind := .deep ka ca })])
def choppedR_L5_A : LoopAt := ⟨23, loopAt Try.prog 23 0, 4, 31, 3, noFrame⟩
theorem choppedR_L5_ok : (choppedR_L5_A).OK := ⟨by show 4 ≤ 31; decide, by show 3 ≤ 4; decide, by kernel_rfl, rfl⟩
def choppedR_L5_gs (ka : Nat) (ca : List D) (tm fl : Int) (x0 : Int) (x1 : Int) (x2 : Bool) (x3 : Bool) : Go.Ev.Rd → Option GS
  | .next 0 ds => ghost [.val 9, .cgrow 8 0 2] (List.range' 36 25) (choppedR_L5_E ka ca tm fl x0 x1 x2 x3).1 (choppedR_L5_E ka ca tm fl x0 x1 x2 x3).2 4 ds
  | .next 1 ds => ghost [.val 9, .cnil 8 0] (List.range' 36 25) (choppedR_L5_E ka ca tm fl x0 x1 x2 x3).1 (choppedR_L5_E ka ca tm fl x0 x1 x2 x3).2 4 ds
  | .out 0 ds => ghost choppedR_x5_0.live choppedR_x5_0.junk (choppedR_L5_E ka ca tm fl x0 x1 x2 x3).1 (choppedR_L5_E ka ca tm fl x0 x1 x2 x3).2 4 ds
  | .out 1 ds => ghost choppedR_x5_1.live choppedR_x5_1.junk (choppedR_L5_E ka ca tm fl x0 x1 x2 x3).1 (choppedR_L5_E ka ca tm fl x0 x1 x2 x3).2 4 ds
  | _ => none
def choppedR_L5_ex : Nat → Option Nat
  | 0 => choppedR_x5_0.ex
  | 1 => choppedR_x5_1.ex
  | _ => none
def choppedR_L5_ax : Go.Ev.Rd → AX
  | .next _ _ => .normal
  | .out j _ => axOf (choppedR_L5_ex j)
def choppedR_L5_S0 (ka : Nat) (ca : List D) (tm fl : Int) (x0 : Int) (x1 : Int) (x2 : Bool) (x3 : Bool) (ds : List D) : Option Go.Ev.Rd := pullD (α := Int × Nat × (List D)) (some (.tup ds)) (fun d => ((D.vi (D.at d 0)), (D.ln (D.at d 1)), (D.lc (D.at d 1)))) (fun (s9, s8_0n, s8_0c) => .tup [iD s9, .list s8_0n s8_0c]) fun (s9, s8_0n, s8_0c) => ((if s9 < (ka : Int) then guardP ((0 : Int) ≤ s9 ∧ s9.toNat < ka) (guardP (0 < ka) (pullD (α := Int) (readD ca (s9.toNat * 2 + 0) 1 false) (fun d => ((D.vi d))) (fun v0 => iD v0) fun v0 => ((if v0 < tm then pullD (α := Int × Int) (readD ca (s9.toNat * 2) 2 true) (fun d => ((D.vi (D.at d 0)), (D.vi (D.at d 1)))) (fun (v1, v2) => .agg [iD v1, iD v2]) fun (v1, v2) => (guardP ((∀ (u : D), u ∈ [dCell (.int .i64 v1), dCell (.int .i64 v2)] → cellD u) ∧ s8_0n * 2 ≤ s8_0c.length ∧ (s8_0n + (0 + 1)) * 16 ≤ 140737488355328 ∧ s8_0n + (0 + 1) ≤ 4611686018427387904) (some (.next 0 [iD (IntKind.i64.wrap (s9 + (1 : Int))), .list (s8_0n + (0 + 1)) (List.append (List.take (s8_0n * 2) s8_0c) [dCell (.int .i64 v1), dCell (.int .i64 v2)])]))) else some (.next 0 [iD (IntKind.i64.wrap (s9 + (1 : Int))), .list s8_0n s8_0c]))))) else some (.out 0 [.list s8_0n s8_0c])))
def choppedR_L5_S1 (ka : Nat) (ca : List D) (tm fl : Int) (x0 : Int) (x1 : Int) (x2 : Bool) (x3 : Bool) (ds : List D) : Option Go.Ev.Rd := pullD (α := Int) (some (.tup ds)) (fun d => ((D.vi (D.at d 0)))) (fun s9 => .tup [iD s9, .one (.tuple #[])]) fun s9 => ((if s9 < (ka : Int) then guardP ((0 : Int) ≤ s9 ∧ s9.toNat < ka) (guardP (0 < ka) (pullD (α := Int) (readD ca (s9.toNat * 2 + 0) 1 false) (fun d => ((D.vi d))) (fun v0 => iD v0) fun v0 => ((if v0 < tm then pullD (α := Int × Int) (readD ca (s9.toNat * 2) 2 true) (fun d => ((D.vi (D.at d 0)), (D.vi (D.at d 1)))) (fun (v1, v2) => .agg [iD v1, iD v2]) fun (v1, v2) => (some (.next 0 [iD (IntKind.i64.wrap (s9 + (1 : Int))), .list 1 [iD v1, iD v2]])) else some (.next 1 [iD (IntKind.i64.wrap (s9 + (1 : Int))), .one (.tuple #[])]))))) else some (.out 1 [.one (.tuple #[])])))
def choppedR_L5_S (ka : Nat) (ca : List D) (tm fl : Int) (x0 : Int) (x1 : Int) (x2 : Bool) (x3 : Bool) : Go.Ev.Rd → Option Go.Ev.Rd
  | .next 0 ds => choppedR_L5_S0 ka ca tm fl x0 x1 x2 x3 ds
  | .next 1 ds => choppedR_L5_S1 ka ca tm fl x0 x1 x2 x3 ds
  | _ => none
theorem choppedR_L5_S_0 (ka : Nat) (ca : List D) (tm fl : Int) (x0 : Int) (x1 : Int) (x2 : Bool) (x3 : Bool) (ds : List D) : choppedR_L5_S ka ca tm fl x0 x1 x2 x3 (.next 0 ds) = choppedR_L5_S0 ka ca tm fl x0 x1 x2 x3 ds := rfl
theorem choppedR_L5_S_1 (ka : Nat) (ca : List D) (tm fl : Int) (x0 : Int) (x1 : Int) (x2 : Bool) (x3 : Bool) (ds : List D) : choppedR_L5_S ka ca tm fl x0 x1 x2 x3 (.next 1 ds) = choppedR_L5_S1 ka ca tm fl x0 x1 x2 x3 ds := rfl
theorem choppedR_L5_S_ok (ka : Nat) (ca : List D) (tm fl : Int) (x0 : Int) (x1 : Int) (x2 : Bool) (x3 : Bool) : ∀ s_ t_, choppedR_L5_S ka ca tm fl x0 x1 x2 x3 s_ = some t_ → Step (ctx [23] choppedR_sp) Tabs choppedR_L5_A (stateOf (choppedR_L5_gs ka ca tm fl x0 x1 x2 x3 s_)) (stateOf (choppedR_L5_gs ka ca tm fl x0 x1 x2 x3 t_)) (choppedR_L5_ax t_) ∧ EndOK choppedR_L5_A.nx choppedR_L5_A.low (choppedR_L5_gs ka ca tm fl x0 x1 x2 x3) t_
  | .next 0 ds, t_, h => by
    have h_ : choppedR_L5_S0 ka ca tm fl x0 x1 x2 x3 ds = some t_ := h
    clear h
    unfold choppedR_L5_S0 at h_
    obtain ⟨⟨s9, s8_0n, s8_0c⟩, e0, h0⟩ := pullD_elim h_
    clear h_
    obtain rfl := tup_inj e0
    by_cases b1_ : s9 < (ka : Int)
    · have h2_ := (if_pos b1_).symm.trans h0
      obtain ⟨f3_, h4_⟩ := guardP_elim h2_
      obtain ⟨f5_, h6_⟩ := guardP_elim h4_
      obtain ⟨v0, f7_, h8_⟩ := pullD_elim h6_
      replace f7_ := readD_elim f7_
      by_cases b9_ : v0 < tm
      · have h10_ := (if_pos b9_).symm.trans h8_
        obtain ⟨⟨v1, v2⟩, f11_, h12_⟩ := pullD_elim h10_
        replace f11_ := readD_elim f11_
        obtain ⟨f13_, h14_⟩ := guardP_elim h12_
        obtain rfl := Option.some.inj h14_
        exact ⟨step_pc 3000 (bT 2 []) [iD v0, .agg [iD v1, iD v2]] [c_d b1_, c_f f3_, c_f f5_, c_f f7_, c_d b9_, c_f f3_, c_f f11_, c_f f13_] [] _ rfl (by kernel_rfl) (by kernel_rfl) (by kernel_rfl) (by kernel_rfl) (by kernel_rfl) (by kernel_rfl), trivial⟩
      have h10_ := (if_neg b9_).symm.trans h8_
      obtain rfl := Option.some.inj h10_
      exact ⟨step_pc 3000 (bT 1 (bF 1 [])) [iD v0] [c_d b1_, c_f f3_, c_f f5_, c_f f7_, c_n b9_] [] _ rfl (by kernel_rfl) (by kernel_rfl) (by kernel_rfl) (by kernel_rfl) (by kernel_rfl) (by kernel_rfl), trivial⟩
    have h2_ := (if_neg b1_).symm.trans h0
    obtain rfl := Option.some.inj h2_
    exact ⟨step_pc 3000 (bF 1 []) [] [c_n b1_] [] _ rfl (by kernel_rfl) (by kernel_rfl) (by kernel_rfl) (by kernel_rfl) (by kernel_rfl) (by kernel_rfl), by kernel_rfl, by kernel_rfl⟩
  | .next 1 ds, t_, h => by
    have h_ : choppedR_L5_S1 ka ca tm fl x0 x1 x2 x3 ds = some t_ := h
    clear h
    unfold choppedR_L5_S1 at h_
    obtain ⟨s9, e0, h0⟩ := pullD_elim h_
    clear h_
    obtain rfl := tup_inj e0
    by_cases b1_ : s9 < (ka : Int)
    · have h2_ := (if_pos b1_).symm.trans h0
      obtain ⟨f3_, h4_⟩ := guardP_elim h2_
      obtain ⟨f5_, h6_⟩ := guardP_elim h4_
      obtain ⟨v0, f7_, h8_⟩ := pullD_elim h6_
      replace f7_ := readD_elim f7_
      by_cases b9_ : v0 < tm
      · have h10_ := (if_pos b9_).symm.trans h8_
        obtain ⟨⟨v1, v2⟩, f11_, h12_⟩ := pullD_elim h10_
        replace f11_ := readD_elim f11_
        obtain rfl := Option.some.inj h12_
        exact ⟨step_pc 3000 (bT 2 []) [iD v0, .agg [iD v1, iD v2]] [c_d b1_, c_f f3_, c_f f5_, c_f f7_, c_d b9_, c_f f3_, c_f f11_, ⟨fact (0 < 0 + 1 ∧ (0 + 1) * 16 ≤ 140737488355328 ∧ 0 + 1 ≤ 4611686018427387904), true, fact_mk (by decide)⟩] [] _ rfl (by kernel_rfl) (by kernel_rfl) (by kernel_rfl) (by kernel_rfl) (by kernel_rfl) (by kernel_rfl), trivial⟩
      have h10_ := (if_neg b9_).symm.trans h8_
      obtain rfl := Option.some.inj h10_
      exact ⟨step_pc 3000 (bT 1 (bF 1 [])) [iD v0] [c_d b1_, c_f f3_, c_f f5_, c_f f7_, c_n b9_] [] _ rfl (by kernel_rfl) (by kernel_rfl) (by kernel_rfl) (by kernel_rfl) (by kernel_rfl) (by kernel_rfl), trivial⟩
    have h2_ := (if_neg b1_).symm.trans h0
    obtain rfl := Option.some.inj h2_
    exact ⟨step_pc 3000 (bF 1 []) [] [c_n b1_] [] _ rfl (by kernel_rfl) (by kernel_rfl) (by kernel_rfl) (by kernel_rfl) (by kernel_rfl) (by kernel_rfl), by kernel_rfl, by kernel_rfl⟩
  | .next (_ + 2) _, _, h => by cases h
  | .out _ _, _, h => by cases h
theorem choppedR_L5_go (ka : Nat) (ca : List D) (tm fl : Int) (x0 : Int) (x1 : Int) (x2 : Bool) (x3 : Bool) {q : Nat} {ds : List D} {j : Nat} {es : List D} (h : runR (choppedR_L5_S ka ca tm fl x0 x1 x2 x3) (.next q ds) = some (.out j es)) : Runs (ctx [23] choppedR_sp) Tabs choppedR_L5_A (stateOf (choppedR_L5_gs ka ca tm fl x0 x1 x2 x3 (.next q ds))) (stateOf (choppedR_L5_gs ka ca tm fl x0 x1 x2 x3 (.out j es))) (choppedR_L5_ax (.out j es)) ∧ (nxtOf (choppedR_L5_gs ka ca tm fl x0 x1 x2 x3 (.out j es)), lowGS (choppedR_L5_gs ka ca tm fl x0 x1 x2 x3 (.out j es))) = (choppedR_L5_A.nx, choppedR_L5_A.low) :=
  runs_of' (good true _ _) choppedR_L5_ok (ax := choppedR_L5_ax) (fun _ _ => rfl) (fun _ _ => axOf_end _) (choppedR_L5_S_ok ka ca tm fl x0 x1 x2 x3) h
theorem choppedR_L5_in0 (ka : Nat) (ca : List D) (tm fl : Int) (x0 : Int) (x1 : Int) (x2 : Bool) (x3 : Bool) {es : List D} (h : runR (choppedR_L5_S ka ca tm fl x0 x1 x2 x3) (.next 1 [iD ((0 : Int)), .one (.tuple #[])]) = some (.out 0 es)) : LoopC (loopAt Try.prog 23 0) (choppedR_L5_E ka ca tm fl x0 x1 x2 x3) 4 noFrame choppedR_x5_0 es :=
  have r := choppedR_L5_go ka ca tm fl x0 x1 x2 x3 h
  loopin_as rfl (loop_in (l := choppedR_L5_A) (E := (choppedR_L5_E ka ca tm fl x0 x1 x2 x3)) (S := stateOf (choppedR_L5_gs ka ca tm fl x0 x1 x2 x3 (.next 1 [iD ((0 : Int)), .one (.tuple #[])]))) (ns := nsOf (choppedR_L5_gs ka ca tm fl x0 x1 x2 x3 (.next 1 [iD ((0 : Int)), .one (.tuple #[])]))) choppedR_L5_ok r.1 r.2 (by kernel_rfl) (by kernel_rfl) (by kernel_rfl) (by kernel_rfl))
theorem choppedR_L5_in1 (ka : Nat) (ca : List D) (tm fl : Int) (x0 : Int) (x1 : Int) (x2 : Bool) (x3 : Bool) {es : List D} (h : runR (choppedR_L5_S ka ca tm fl x0 x1 x2 x3) (.next 1 [iD ((0 : Int)), .one (.tuple #[])]) = some (.out 1 es)) : LoopC (loopAt Try.prog 23 0) (choppedR_L5_E ka ca tm fl x0 x1 x2 x3) 4 noFrame choppedR_x5_1 es :=
  have r := choppedR_L5_go ka ca tm fl x0 x1 x2 x3 h
  loopin_as rfl (loop_in (l := choppedR_L5_A) (E := (choppedR_L5_E ka ca tm fl x0 x1 x2 x3)) (S := stateOf (choppedR_L5_gs ka ca tm fl x0 x1 x2 x3 (.next 1 [iD ((0 : Int)), .one (.tuple #[])]))) (ns := nsOf (choppedR_L5_gs ka ca tm fl x0 x1 x2 x3 (.next 1 [iD ((0 : Int)), .one (.tuple #[])]))) choppedR_L5_ok r.1 r.2 (by kernel_rfl) (by kernel_rfl) (by kernel_rfl) (by kernel_rfl))
def choppedR_M (ka : Nat) (ca : List D) (tm fl : Int) : Option D := guardP ((0 : Int) ≤ (0 : Int) ∧ Int.toNat (0 : Int) < ka) (guardP (0 < ka) (pullD (α := Int) (readD ca (Int.toNat (0 : Int) * 2 + 0) 1 false) (fun d => ((D.vi d))) (fun v0 => iD v0) fun v0 => (guardP ((0 : Int) ≤ IntKind.i64.wrap ((ka : Int) - (1 : Int)) ∧ (IntKind.i64.wrap ((ka : Int) - (1 : Int))).toNat < ka) (pullD (α := Int) (readD ca ((IntKind.i64.wrap ((ka : Int) - (1 : Int))).toNat * 2 + 0) 1 false) (fun d => ((D.vi d))) (fun v1 => iD v1) fun v1 => (pullD (α := Bool) (m_14 [iD tm, iD (IntKind.i64.wrap (v0 + (1 : Int))), iD v1]) (fun d => ((D.vb d))) (fun r2 => .one (.bool r2)) fun r2 => ((if r2 = false then some (.tup [.agg [.list 0 []], iD (2 : Int)]) else pullD (α := Bool) (m_14 [iD fl, iD (1 : Int), iD (100000 : Int)]) (fun d => ((D.vb d))) (fun r3 => .one (.bool r3)) fun r3 => ((if r3 = false then some (.tup [.agg [.list 0 []], iD (2 : Int)]) else bindL (runR (choppedR_L5_S ka ca tm fl v0 v1 r2 r3) (.next 1 [iD ((0 : Int)), .one (.tuple #[])])) fun j ds => (if j = 0 then pullD (α := Nat × (List D)) (some (.tup ds)) (fun d => ((D.ln (D.at d 0)), (D.lc (D.at d 0)))) (fun (k4, c5) => .tup [.list k4 c5]) fun (k4, c5) => (pullD (α := Int × Int) (m_15 [.agg [.list ka ca], iD tm]) (fun d => ((D.vi (D.at d 0)), (D.vi (D.at d 1)))) (fun (r6, r7) => .tup [iD r6, iD r7]) fun (r6, r7) => (pullD (α := Int) (m_49 [iD r6, iD r7]) (fun d => ((D.vi d))) (fun r8 => iD r8) fun r8 => (guardP ((∀ (u : D), u ∈ [dCell (.int .i64 tm), dCell (.int .i64 r8)] → cellD u) ∧ k4 * 2 ≤ c5.length ∧ (k4 + (0 + 1)) * 16 ≤ 140737488355328 ∧ k4 + (0 + 1) ≤ 4611686018427387904) (guardP ((∀ (u : D), u ∈ [dCell (.int .i64 (IntKind.i64.wrap (tm + fl))), dCell (.int .i64 (0 : Int))] → cellD u) ∧ (k4 + (0 + 1)) * 2 ≤ (List.take (k4 * 2) c5 ++ [dCell (.int .i64 tm), dCell (.int .i64 r8)]).length ∧ (k4 + (0 + 1) + (0 + 1)) * 16 ≤ 140737488355328 ∧ k4 + (0 + 1) + (0 + 1) ≤ 4611686018427387904) ((if IntKind.i64.wrap (tm + fl) > (1000000 : Int) then some (.tup [.agg [.list 0 []], iD (8 : Int)]) else (if (((k4 + (0 + 1) + (0 + 1)) : Nat) : Int) > (12 : Int) then some (.tup [.agg [.list 0 []], iD (8 : Int)]) else guardP ((0 + (k4 + (0 + 1) + (0 + 1))) * 2 ≤ (List.take ((k4 + (0 + 1)) * 2) (List.take (k4 * 2) c5 ++ [dCell (.int .i64 tm), dCell (.int .i64 r8)]) ++ [dCell (.int .i64 (IntKind.i64.wrap (tm + fl))), dCell (.int .i64 (0 : Int))]).length ∧ 0 < 2) (some (.tup [.agg [.list (k4 + (0 + 1) + (0 + 1)) (List.append (List.take ((k4 + (0 + 1)) * 2) (List.take (k4 * 2) c5 ++ [dCell (.int .i64 tm), dCell (.int .i64 r8)])) [dCell (.int .i64 (IntKind.i64.wrap (tm + fl))), dCell (.int .i64 (0 : Int))])], iD (0 : Int)]))))))))) else if j = 1 then pullD (some (.tup ds)) (fun _ => ()) (fun _ => .tup [.one (.tuple #[])]) fun _ => (pullD (α := Int × Int) (m_15 [.agg [.list ka ca], iD tm]) (fun d => ((D.vi (D.at d 0)), (D.vi (D.at d 1)))) (fun (r9, r10) => .tup [iD r9, iD r10]) fun (r9, r10) => (pullD (α := Int) (m_49 [iD r9, iD r10]) (fun d => ((D.vi d))) (fun r11 => iD r11) fun r11 => (guardP ((∀ (u : D), u ∈ [dCell (.int .i64 (IntKind.i64.wrap (tm + fl))), dCell (.int .i64 (0 : Int))] → cellD u) ∧ (0 + 1) * 2 ≤ [dCell (.int .i64 tm), dCell (.int .i64 r11)].length ∧ (0 + 1 + (0 + 1)) * 16 ≤ 140737488355328 ∧ 0 + 1 + (0 + 1) ≤ 4611686018427387904) ((if IntKind.i64.wrap (tm + fl) > (1000000 : Int) then some (.tup [.agg [.list 0 []], iD (8 : Int)]) else guardP ((0 + (0 + 1 + (0 + 1))) * 2 ≤ (List.take ((0 + 1) * 2) [dCell (.int .i64 tm), dCell (.int .i64 r11)] ++ [dCell (.int .i64 (IntKind.i64.wrap (tm + fl))), dCell (.int .i64 (0 : Int))]).length ∧ 0 < 2) (some (.tup [.agg [.list 2 [iD tm, iD r11, iD (IntKind.i64.wrap (tm + fl)), iD (0 : Int)]], iD (0 : Int)]))))))) else none))))))))))
theorem choppedR_M_ok (ka : Nat) (ca : List D) (tm fl : Int) {r : D} (h : choppedR_M ka ca tm fl = some r) : Con 23 [.agg [.list ka ca], iD tm, iD fl] r := by
  unfold choppedR_M at h
  obtain ⟨f1_, h2_⟩ := guardP_elim h
  obtain ⟨f3_, h4_⟩ := guardP_elim h2_
  obtain ⟨v0, f5_, h6_⟩ := pullD_elim h4_
  replace f5_ := readD_elim f5_
  obtain ⟨f7_, h8_⟩ := guardP_elim h6_
  obtain ⟨v1, f9_, h10_⟩ := pullD_elim h8_
  replace f9_ := readD_elim f9_
  obtain ⟨r2, f11_, h12_⟩ := pullD_elim h10_
  replace f11_ := m_14_ok f11_
  by_cases b13_ : r2 = false
  · have h14_ := (if_pos b13_).symm.trans h12_
    obtain rfl := Option.some.inj h14_
    exact con_pc (op := true) (I := [23]) (sp := choppedR_sp) 3000 (bT 5 []) [iD v0, iD v1, .one (.bool r2)] [c_f f1_, c_f f3_, c_f f5_, c_f f7_, c_f f3_, c_f f9_, c_no b13_, c_no b13_, c_no b13_, c_no b13_, c_T] [k_c f11_] (by kernel_rfl)
  have h14_ := (if_neg b13_).symm.trans h12_
  have b15_ : r2 = true := by first | exact b13_ | simpa using b13_
  obtain ⟨r3, f16_, h17_⟩ := pullD_elim h14_
  replace f16_ := m_14_ok f16_
  by_cases b18_ : r3 = false
  · have h19_ := (if_pos b18_).symm.trans h17_
    obtain rfl := Option.some.inj h19_
    exact con_pc (op := true) (I := [23]) (sp := choppedR_sp) 3000 (bF 4 (bT 1 [])) [iD v0, iD v1, .one (.bool r2), .one (.bool r3)] [c_f f1_, c_f f3_, c_f f5_, c_f f7_, c_f f3_, c_f f9_, c_nn b15_, c_nn b15_, c_nn b15_, c_nn b15_, c_no b18_] [k_c f11_, k_c f16_] (by kernel_rfl)
  have h19_ := (if_neg b18_).symm.trans h17_
  have b20_ : r3 = true := by first | exact b18_ | simpa using b18_
  obtain ⟨j, ds, e21_, h22_⟩ := bindL_elim h19_
  by_cases j23_ : j = 0
  · have h26_ := (if_pos j23_).symm.trans h22_
    clear h22_
    subst j23_
    obtain ⟨⟨k4, c5⟩, e24_, h27_⟩ := pullD_elim h26_
    clear h26_
    obtain rfl := tup_inj e24_
    have k25_ := choppedR_L5_in0 ka ca tm fl v0 v1 r2 r3 e21_
    obtain ⟨⟨r6, r7⟩, f28_, h29_⟩ := pullD_elim h27_
    replace f28_ := m_15_ok f28_
    obtain ⟨r8, f30_, h31_⟩ := pullD_elim h29_
    replace f30_ := m_49_ok f30_
    obtain ⟨f32_, h33_⟩ := guardP_elim h31_
    obtain ⟨f34_, h35_⟩ := guardP_elim h33_
    by_cases b36_ : IntKind.i64.wrap (tm + fl) > (1000000 : Int)
    · have h37_ := (if_pos b36_).symm.trans h35_
      obtain rfl := Option.some.inj h37_
      exact con_pc (op := true) (I := [23]) (sp := choppedR_sp) 3000 (bF 5 (bT 6 [])) [iD v0, iD v1, .one (.bool r2), .one (.bool r3), .tup [iD (Int.ofNat 0), .list k4 c5], .tup [iD r6, iD r7], iD r8] [c_f f1_, c_f f3_, c_f f5_, c_f f7_, c_f f3_, c_f f9_, c_nn b15_, c_nn b15_, c_nn b15_, c_nn b15_, c_nn b20_, c_f f32_, c_f f34_, c_d b36_, c_d b36_, c_d b36_, c_d b36_, c_d b36_, c_T] [k_c f11_, k_c f16_, k_l k25_ (bT 6 []) [.tup [iD (Int.ofNat 0), .list k4 c5], .tup [iD r6, iD r7], iD r8] [.tup [iD r6, iD r7], iD r8], k_c f28_, k_c f30_] (by kernel_rfl)
    have h37_ := (if_neg b36_).symm.trans h35_
    by_cases b38_ : (((k4 + (0 + 1) + (0 + 1)) : Nat) : Int) > (12 : Int)
    · have h39_ := (if_pos b38_).symm.trans h37_
      obtain rfl := Option.some.inj h39_
      exact con_pc (op := true) (I := [23]) (sp := choppedR_sp) 3000 (bF 10 (bT 1 [])) [iD v0, iD v1, .one (.bool r2), .one (.bool r3), .tup [iD (Int.ofNat 0), .list k4 c5], .tup [iD r6, iD r7], iD r8] [c_f f1_, c_f f3_, c_f f5_, c_f f7_, c_f f3_, c_f f9_, c_nn b15_, c_nn b15_, c_nn b15_, c_nn b15_, c_nn b20_, c_f f32_, c_f f34_, c_n b36_, c_n b36_, c_n b36_, c_n b36_, c_n b36_, c_d b38_] [k_c f11_, k_c f16_, k_l k25_ (bF 5 (bT 1 [])) [.tup [iD (Int.ofNat 0), .list k4 c5], .tup [iD r6, iD r7], iD r8] [.tup [iD r6, iD r7], iD r8], k_c f28_, k_c f30_] (by kernel_rfl)
    have h39_ := (if_neg b38_).symm.trans h37_
    obtain ⟨f40_, h41_⟩ := guardP_elim h39_
    obtain rfl := Option.some.inj h41_
    exact con_pc (op := true) (I := [23]) (sp := choppedR_sp) 3000 (bF 11 []) [iD v0, iD v1, .one (.bool r2), .one (.bool r3), .tup [iD (Int.ofNat 0), .list k4 c5], .tup [iD r6, iD r7], iD r8] [c_f f1_, c_f f3_, c_f f5_, c_f f7_, c_f f3_, c_f f9_, c_nn b15_, c_nn b15_, c_nn b15_, c_nn b15_, c_nn b20_, c_f f32_, c_f f34_, c_n b36_, c_n b36_, c_n b36_, c_n b36_, c_n b36_, c_n b38_, c_f f40_] [k_c f11_, k_c f16_, k_l k25_ (bF 6 []) [.tup [iD (Int.ofNat 0), .list k4 c5], .tup [iD r6, iD r7], iD r8] [.tup [iD r6, iD r7], iD r8], k_c f28_, k_c f30_] (by kernel_rfl)
  have h42_ := (if_neg j23_).symm.trans h22_
  clear h22_
  by_cases j43_ : j = 1
  · have h46_ := (if_pos j43_).symm.trans h42_
    clear h42_
    subst j43_
    obtain ⟨⟨⟩, e44_, h47_⟩ := pullD_elim h46_
    clear h46_
    obtain rfl := tup_inj e44_
    have k45_ := choppedR_L5_in1 ka ca tm fl v0 v1 r2 r3 e21_
    obtain ⟨⟨r9, r10⟩, f48_, h49_⟩ := pullD_elim h47_
    replace f48_ := m_15_ok f48_
    obtain ⟨r11, f50_, h51_⟩ := pullD_elim h49_
    replace f50_ := m_49_ok f50_
    obtain ⟨f52_, h53_⟩ := guardP_elim h51_
    by_cases b54_ : IntKind.i64.wrap (tm + fl) > (1000000 : Int)
    · have h55_ := (if_pos b54_).symm.trans h53_
      obtain rfl := Option.some.inj h55_
      exact con_pc (op := true) (I := [23]) (sp := choppedR_sp) 3000 (bF 5 (bT 6 [])) [iD v0, iD v1, .one (.bool r2), .one (.bool r3), .tup [iD (Int.ofNat 1), .one (.tuple #[])], .tup [iD r9, iD r10], iD r11] [c_f f1_, c_f f3_, c_f f5_, c_f f7_, c_f f3_, c_f f9_, c_nn b15_, c_nn b15_, c_nn b15_, c_nn b15_, c_nn b20_, ⟨fact (0 < 0 + 1 ∧ (0 + 1) * 16 ≤ 140737488355328 ∧ 0 + 1 ≤ 4611686018427387904), true, fact_mk (by decide)⟩, c_f f52_, c_d b54_, c_d b54_, c_d b54_, c_d b54_, c_d b54_, c_T] [k_c f11_, k_c f16_, k_l k45_ (bT 6 []) [.tup [iD (Int.ofNat 1), .one (.tuple #[])], .tup [iD r9, iD r10], iD r11] [.tup [iD r9, iD r10], iD r11], k_c f48_, k_c f50_] (by kernel_rfl)
    have h55_ := (if_neg b54_).symm.trans h53_
    obtain ⟨f56_, h57_⟩ := guardP_elim h55_
    obtain rfl := Option.some.inj h57_
    exact con_pc (op := true) (I := [23]) (sp := choppedR_sp) 3000 (bF 11 []) [iD v0, iD v1, .one (.bool r2), .one (.bool r3), .tup [iD (Int.ofNat 1), .one (.tuple #[])], .tup [iD r9, iD r10], iD r11] [c_f f1_, c_f f3_, c_f f5_, c_f f7_, c_f f3_, c_f f9_, c_nn b15_, c_nn b15_, c_nn b15_, c_nn b15_, c_nn b20_, ⟨fact (0 < 0 + 1 ∧ (0 + 1) * 16 ≤ 140737488355328 ∧ 0 + 1 ≤ 4611686018427387904), true, fact_mk (by decide)⟩, c_f f52_, c_n b54_, c_n b54_, c_n b54_, c_n b54_, c_n b54_, c_F, c_f f56_] [k_c f11_, k_c f16_, k_l k45_ (bF 6 []) [.tup [iD (Int.ofNat 1), .one (.tuple #[])], .tup [iD r9, iD r10], iD r11] [.tup [iD r9, iD r10], iD r11], k_c f48_, k_c f50_] (by kernel_rfl)
  have h58_ := (if_neg j43_).symm.trans h42_
  clear h42_
  cases h58_
def m_23 (ds : List D) : Option D := pullD (α := Nat × (List D) × Int × Int) (some (.tup ds)) (fun d => ((D.ln (D.at (D.at d 0) 0)), (D.lc (D.at (D.at d 0) 0)), (D.vi (D.at d 1)), (D.vi (D.at d 2)))) (fun (ka, ca, tm, fl) => .tup [.agg [.list ka ca], iD tm, iD fl]) fun (ka, ca, tm, fl) => choppedR_M ka ca tm fl
theorem m_23_ok {ds : List D} {r : D} (h : m_23 ds = some r) : Con 23 ds r := by
  unfold m_23 at h
  obtain ⟨⟨ka, ca, tm, fl⟩, e0, h0⟩ := pullD_elim h
  obtain rfl := tup_inj e0
  exact choppedR_M_ok ka ca tm fl h0
theorem m_23_eq (ka : Nat) (ca : List D) (tm fl : Int) : m_23 [.agg [.list ka ca], iD tm, iD fl] = choppedR_M ka ca tm fl := pullD_some (ka, ca, tm, fl) rfl rfl
end
end Go.Proofs.Ytaabapmggkkmeaa
/- Impulses: the reference's answers. -/
namespace Go.Proofs.Ytaabapmggkkmeaa
open Go.Ev Go.RowKit
set_option maxRecDepth 100000
section
variable {l : List (Int × Int)}
theorem floor49 {n d : Int} (hd : 0 < d) (h1 : -1000000000000 ≤ n) (h2 : n ≤ 1000000000000) : m_49 [iD n, iD d] = some (iD (n / d)) := by
  rw [m_49_eq]
  unfold floorR_M
  have hb := tdiv_bound (N := n) (s := d) (B := 1000000000000) h1 h2
  rw [guardP_pos (by omega), wrapJ (n.tdiv d) (by omega) (by omega), wrapJ (n.tdiv d - 1) (by omega) (by omega), ← tdiv_floor hd]
  by_cases hc : n.tmod d < 0
  · rw [if_pos hc, if_pos hc]
  · rw [if_neg hc, if_neg hc]
theorem foldQ (l : List (Int × Int)) : D.agg [D.list l.length (cP l)] = .agg [lP l] := rfl
theorem foldQ2 (l : List (Int × Int)) (x : Int) : [D.agg [D.list l.length (cP l)], iD x] = [.agg [lP l], iD x] := rfl
theorem pullT {β : Type} (a b : Int) (k : Int × Int → Option β) : pullD (some (.tup [iD a, iD b])) (fun d => (D.vi (D.at d 0), D.vi (D.at d 1))) (fun (x, y) => .tup [iD x, iD y]) k = k (a, b) := pullD_some (a, b) rfl rfl
/-- A full impulse and its error. -/
def fullX (pk fr tl : Int) : List (Int × Int) × Int :=
  if ¬ (-1000000 ≤ pk ∧ pk ≤ 1000000) ∨ ¬ (1 ≤ fr ∧ fr ≤ 100000) ∨ ¬ (1 ≤ tl ∧ tl ≤ 100000) then ([], 2) else if tl ≤ fr then ([], 9) else ([(0, 0), (fr, pk), (tl, pk / 2), (4 * tl, 0)], 0)
theorem fullX_2 {pk fr tl : Int} (h : ¬ (-1000000 ≤ pk ∧ pk ≤ 1000000) ∨ ¬ (1 ≤ fr ∧ fr ≤ 100000) ∨ ¬ (1 ≤ tl ∧ tl ≤ 100000)) : D.tup [.agg [lP (fullX pk fr tl).1], iD (fullX pk fr tl).2] = .tup [.agg [.list 0 []], iD 2] := by
  unfold fullX; rw [if_pos h]; rfl
theorem fullX_9 {pk fr tl : Int} (h : ¬ (¬ (-1000000 ≤ pk ∧ pk ≤ 1000000) ∨ ¬ (1 ≤ fr ∧ fr ≤ 100000) ∨ ¬ (1 ≤ tl ∧ tl ≤ 100000))) (h2 : tl ≤ fr) : D.tup [.agg [lP (fullX pk fr tl).1], iD (fullX pk fr tl).2] = .tup [.agg [.list 0 []], iD 9] := by
  unfold fullX; rw [if_neg h, if_pos h2]; rfl
theorem fullX_0 {pk fr tl : Int} (h : ¬ (¬ (-1000000 ≤ pk ∧ pk ≤ 1000000) ∨ ¬ (1 ≤ fr ∧ fr ≤ 100000) ∨ ¬ (1 ≤ tl ∧ tl ≤ 100000))) (h2 : ¬ tl ≤ fr) : D.tup [.agg [lP (fullX pk fr tl).1], iD (fullX pk fr tl).2] = .tup [.agg [.list 4 [iD 0, iD 0, iD fr, iD pk, iD tl, iD (pk / 2), iD (4 * tl), iD 0]], iD 0] := by
  unfold fullX; rw [if_neg h, if_neg h2]; rfl
theorem full18 (pk fr tl : Int) : m_18 [iD pk, iD fr, iD tl] = some (.tup [.agg [lP (fullX pk fr tl).1], iD (fullX pk fr tl).2]) := by
  rw [m_18_eq]
  unfold fullImp_M
  rw [show IntKind.i64.wrap ((0 : Int) - 1000000) = -1000000 from rfl]
  by_cases c1 : pk < -1000000
  · rw [if_pos c1, fullX_2 (.inl (by omega))]
    unfold fullImp_M_s0
    by_cases c2 : fr < 1
    · rw [if_pos c2, first22, pullI, if_pos (by decide)]
    · rw [if_neg c2]
      by_cases c3 : fr > 100000
      · rw [if_pos c3, first22, pullI, if_pos (by decide)]
      · rw [if_neg c3]
        by_cases c4 : tl < 1
        · rw [if_pos c4, first22, pullI, if_pos (by decide)]
        · rw [if_neg c4]
          by_cases c5 : tl > 100000
          · rw [if_pos c5, first22, pullI, if_pos (by decide)]
          · rw [if_neg c5, first20, pullI, if_pos (by decide)]
  · rw [if_neg c1]
    by_cases c0 : pk > 1000000
    · rw [if_pos c0, fullX_2 (.inl (by omega))]
      unfold fullImp_M_s1
      by_cases c2 : fr < 1
      · rw [if_pos c2, first22, pullI, if_pos (by decide)]
      · rw [if_neg c2]
        by_cases c3 : fr > 100000
        · rw [if_pos c3, first22, pullI, if_pos (by decide)]
        · rw [if_neg c3]
          by_cases c4 : tl < 1
          · rw [if_pos c4, first22, pullI, if_pos (by decide)]
          · rw [if_neg c4]
            by_cases c5 : tl > 100000
            · rw [if_pos c5, first22, pullI, if_pos (by decide)]
            · rw [if_neg c5, first20, pullI, if_pos (by decide)]
    · rw [if_neg c0]
      unfold fullImp_M_s2
      by_cases c2 : fr < 1
      · rw [if_pos c2, first02, pullI, if_pos (by decide), fullX_2 (by omega)]
      · rw [if_neg c2]
        by_cases c3 : fr > 100000
        · rw [if_pos c3, first02, pullI, if_pos (by decide), fullX_2 (by omega)]
        · rw [if_neg c3]
          by_cases c4 : tl < 1
          · rw [if_pos c4, first02, pullI, if_pos (by decide), fullX_2 (by omega)]
          · rw [if_neg c4]
            by_cases c5 : tl > 100000
            · rw [if_pos c5, first02, pullI, if_pos (by decide), fullX_2 (by omega)]
            · rw [if_neg c5, first00, pullI, if_neg (by decide)]
              by_cases c6 : tl ≤ fr
              · rw [if_pos c6, fullX_9 (by omega) c6]
              · rw [if_neg c6, rdown_eq (by omega) (by omega) (by omega), pullI, wrapJ (4 * tl) (by omega) (by omega), fullX_0 (by omega) c6]
theorem full20 (pk fr tl : Int) : m_20 [iD pk, iD fr, iD tl] = some (.tup [.agg [lP (fullX pk fr tl).1], iD (fullX pk fr tl).2]) := by
  rw [m_20_eq]
  unfold fullR_M
  rw [within_eq, pullB]
  by_cases c1 : -1000000 ≤ pk ∧ pk ≤ 1000000
  · rw [if_neg (by simpa using c1), within_eq, pullB]
    by_cases c2 : 1 ≤ fr ∧ fr ≤ 100000
    · rw [if_neg (by simpa using c2), within_eq, pullB]
      by_cases c3 : 1 ≤ tl ∧ tl ≤ 100000
      · rw [if_neg (by simpa using c3)]
        by_cases c6 : tl ≤ fr
        · rw [if_pos c6, fullX_9 (by omega) c6]
        · rw [if_neg c6, floor49 (by omega) (by omega) (by omega), pullI, wrapJ (4 * tl) (by omega) (by omega), fullX_0 (by omega) c6]
      · rw [if_pos (by simpa using c3), fullX_2 (by omega)]
    · rw [if_pos (by simpa using c2), fullX_2 (by omega)]
  · rw [if_pos (by simpa using c1), fullX_2 (by omega)]
theorem same21 (l : List (Int × Int)) (hl : l.length ≤ 1000) : m_21 [.agg [lP l], .agg [lP l]] = some (.one (.bool true)) := by
  rw [m_21_eq]
  unfold sameImp_M
  rw [if_neg (fun h => h rfl)]
  have s1 : runR (sameImp_L4_S l.length (cP l) l.length (cP l)) (.next 0 [iD 0]) = _ := runR_scan (S := sameImp_L4_S l.length (cP l) l.length (cP l)) (fun _ => 0) (fun i => [iD (i : Int)]) (Nat.zero_le l.length) (fun i _ hi => by
    show sameImp_L4_S0 l.length (cP l) l.length (cP l) _ = _
    unfold sameImp_L4_S0
    rw [pullD_some (i : Int) (by rfl) (by rfl)]
    have e2 : IntKind.i64.wrap ((i : Int) + 1) = ((i + 1 : Nat) : Int) := natI' (by omega)
    simp only [e2, Int.toNat_natCast]
    rw [if_pos (by omega), guardP_pos (by omega), readP hi, pullD_some (ta l i, va l i) (by rfl) (by rfl)]
    dsimp only
    rw [guardP_pos (by omega), pullD_some (ta l i, va l i) (by rfl) (by rfl)]
    dsimp only
    rw [if_neg (by simp)])
  have s2 : runR (sameImp_L4_S l.length (cP l) l.length (cP l)) (.next 0 [iD (l.length : Int)]) = some (.out 0 []) := runR_exit (by
    show sameImp_L4_S0 l.length (cP l) l.length (cP l) _ = _
    unfold sameImp_L4_S0
    rw [pullD_some (l.length : Int) (by rfl) (by rfl), if_neg (by omega)])
  rw [bindL_some (s1.trans s2), if_pos rfl]
  exact pullD_some () (by rfl) (by rfl)
theorem value15_before (h : Imp l) {tm : Int} (t0 : tm < ta l 0) : m_15 [.agg [lP l], iD tm] = some (.tup [iD 0, iD 1]) := by
  have h2 := h.two
  rw [m_15_eq]
  unfold valueR_M
  rw [guardP_pos ⟨Int.le_refl _, by show 0 < l.length; omega⟩, guardP_pos (by omega), show Int.toNat (0 : Int) * 2 + 0 = 0 * 2 + 0 from rfl, readP0 (by omega), pullI, if_pos t0]
theorem value15_end (h : Imp l) {tm : Int} (t1 : ta l (l.length - 1) ≤ tm) : m_15 [.agg [lP l], iD tm] = some (.tup [iD (va l (l.length - 1)), iD 1]) := by
  have h2 := h.two
  have h3 := h.le
  have := h.mono (i := 0) (j := l.length - 1) (by omega) (by omega)
  have e3 : IntKind.i64.wrap ((l.length : Int) - 1) = ((l.length - 1 : Nat) : Int) := by rw [wrapJ _ (by omega) (by omega)]; omega
  rw [m_15_eq]
  unfold valueR_M
  simp only [e3, Int.toNat_natCast]
  rw [guardP_pos ⟨Int.le_refl _, by show 0 < l.length; omega⟩, guardP_pos (by omega), show Int.toNat (0 : Int) * 2 + 0 = 0 * 2 + 0 from rfl, readP0 (by omega), pullI, if_neg (by omega), guardP_pos (by omega), readP0 (by omega), pullI, if_pos t1, readP1 (by omega), pullI]
theorem value15_piece (h : Imp l) {tm : Int} {k : Nat} (hk : k + 1 < l.length) (hlo : ta l k ≤ tm) (hhi : tm < ta l (k + 1)) : m_15 [.agg [lP l], iD tm] = some (.tup [iD (numP l k tm), iD (denP l k)]) := by
  have h2 := h.two
  have h3 := h.le
  have t0 : ta l 0 ≤ tm := by
    rcases Nat.eq_zero_or_pos k with rfl | hp
    · exact hlo
    · have := h.mono hp (by omega); omega
  have t1 : tm < ta l (l.length - 1) := by
    rcases Nat.lt_or_ge (k + 1) (l.length - 1) with h4 | h4
    · have := h.mono h4 (by omega); omega
    · have : l.length - 1 = k + 1 := by omega
      rw [this]; exact hhi
  have e3 : IntKind.i64.wrap ((l.length : Int) - 1) = ((l.length - 1 : Nat) : Int) := by rw [wrapJ _ (by omega) (by omega)]; omega
  rw [m_15_eq]
  unfold valueR_M
  simp only [e3, Int.toNat_natCast]
  rw [guardP_pos ⟨Int.le_refl _, by show 0 < l.length; omega⟩, guardP_pos (by omega), show Int.toNat (0 : Int) * 2 + 0 = 0 * 2 + 0 from rfl, readP0 (by omega), pullI, if_neg (by omega), guardP_pos (by omega), readP0 (by omega), pullI, if_neg (by omega)]
  have e2 : ∀ i : Nat, i ≤ k → IntKind.i64.wrap ((i : Int) + 1) = ((i + 1 : Nat) : Int) := fun i hi => natI' (by omega)
  have s1 : runR (valueR_L7_S l.length (cP l) tm (ta l 0) (ta l (l.length - 1))) (.next 0 [iD 0]) = _ := runR_scan (S := valueR_L7_S l.length (cP l) tm (ta l 0) (ta l (l.length - 1))) (fun _ => 0) (fun i => [iD (i : Int)]) (Nat.zero_le k) (fun i _ hi => by
    show valueR_L7_S0 l.length (cP l) tm (ta l 0) (ta l (l.length - 1)) _ = _
    unfold valueR_L7_S0
    rw [pullD_some (i : Int) (by rfl) (by rfl)]
    simp only [e2 i (by omega), Int.toNat_natCast]
    have hq : ta l (i + 1) ≤ tm := by
      rcases Nat.lt_or_ge (i + 1) k with h4 | h4
      · have := h.mono h4 (by omega); omega
      · have : i + 1 = k := by omega
        rw [this]; exact hlo
    rw [guardP_pos (by omega), guardP_pos (by omega), readP0 (by omega), pullI, if_pos hq])
  have s2 : runR (valueR_L7_S l.length (cP l) tm (ta l 0) (ta l (l.length - 1))) (.next 0 [iD (k : Int)]) = some (.out 0 [iD (k : Int)]) := runR_exit (by
    show valueR_L7_S0 l.length (cP l) tm (ta l 0) (ta l (l.length - 1)) _ = _
    unfold valueR_L7_S0
    rw [pullD_some (k : Int) (by rfl) (by rfl)]
    simp only [e2 k (by omega), Int.toNat_natCast]
    rw [guardP_pos (by omega), guardP_pos (by omega), readP0 (by omega), pullI, if_neg (by omega)])
  have b0 := h.ok k (by omega)
  have b1 := h.ok (k + 1) hk
  have b2 := h.asc k hk
  have m1 := mulB (x := va l k) (y := ta l (k + 1) - ta l k) (A := 1000000) (B := 1000000) (by omega) (by omega) (by omega) (by omega)
  have m2 := mulB (x := va l (k + 1) - va l k) (y := tm - ta l k) (A := 2000000) (B := 1000000) (by omega) (by omega) (by omega) (by omega)
  rw [bindL_some (s1.trans s2), if_pos rfl, pullD_some (k : Int) (by rfl) (by rfl)]
  simp only [e2 k (Nat.le_refl _), Int.toNat_natCast]
  rw [guardP_pos (by omega), readP (by omega), pullD_some (ta l k, va l k) (by rfl) (by rfl)]
  dsimp only
  rw [guardP_pos (by omega), readP (by omega), pullD_some (ta l (k + 1), va l (k + 1)) (by rfl) (by rfl)]
  dsimp only
  rw [wrapJ (ta l (k + 1) - ta l k) (by omega) (by omega), wrapJ (va l (k + 1) - va l k) (by omega) (by omega), wrapJ (tm - ta l k) (by omega) (by omega), wrapJ (va l k * (ta l (k + 1) - ta l k)) (by omega) (by omega), wrapJ ((va l (k + 1) - va l k) * (tm - ta l k)) (by omega) (by omega), wrapJ _ (by omega) (by omega)]
  unfold numP denP
  rw [Int.mul_comm (va l (k + 1) - va l k)]
/-- The reference's value on a piece is that of the program, maybe over another denominator. -/
theorem value15 (h : Imp l) {tm : Int} {p : Nat} (hp : p + 1 < l.length) (t0 : ta l 0 ≤ tm) (hlo : 0 < p → ta l p < tm) (hhi : tm ≤ ta l (p + 1)) : ∃ n d, m_15 [.agg [lP l], iD tm] = some (.tup [iD n, iD d]) ∧ 0 < d ∧ d ≤ 1000000 ∧ -(1000000 * d) ≤ n ∧ n ≤ 1000000 * d ∧ n * denP l p = numP l p tm * d := by
  have hlo' : ta l p ≤ tm := by
    rcases Nat.eq_zero_or_pos p with rfl | hq
    · exact t0
    · have := hlo hq; omega
  rcases Int.lt_or_le tm (ta l (p + 1)) with h1 | h1
  · have nb := num_bound h hp t0 hlo hhi
    exact ⟨_, _, value15_piece h hp hlo' h1, nb.2.2.1, nb.2.2.2, nb.1, nb.2.1, rfl⟩
  · have e : tm = ta l (p + 1) := by omega
    have en : numP l p tm = va l (p + 1) * denP l p := by rw [e]; unfold numP denP; grind
    rcases Nat.lt_or_ge (p + 1 + 1) l.length with h2 | h2
    · have b := h.ok (p + 1) hp
      have a := h.asc (p + 1) h2
      have b2 := h.ok (p + 1 + 1) h2
      have eq : numP l (p + 1) tm = va l (p + 1) * denP l (p + 1) := by rw [e]; unfold numP denP; grind
      have q1 : 0 ≤ (1000000 - va l (p + 1)) * denP l (p + 1) := Int.mul_nonneg (by omega) (by unfold denP; omega)
      have q2 : 0 ≤ (1000000 + va l (p + 1)) * denP l (p + 1) := Int.mul_nonneg (by omega) (by unfold denP; omega)
      refine ⟨_, _, value15_piece h h2 (by omega) (by omega), by unfold denP; omega, by unfold denP; omega, ?_, ?_, ?_⟩
      · rw [eq]; grind
      · rw [eq]; grind
      · rw [eq, en]; grind
    · have b := h.ok (p + 1) hp
      have el : l.length - 1 = p + 1 := by omega
      refine ⟨_, _, value15_end h (by rw [el]; omega), by omega, by omega, ?_, ?_, ?_⟩
      · rw [el]; omega
      · rw [el]; omega
      · rw [el, en]; omega
theorem same_floor {n d a b : Int} (hd : 0 < d) (hb : 0 < b) (h : n * b = a * d) : n / d = a / b := by
  have e1 : b * n / (b * d) = n / d := Int.mul_ediv_mul_of_pos (a := b) n d hb
  have e2 : d * a / (d * b) = a / b := Int.mul_ediv_mul_of_pos (a := d) a b hd
  rw [← e1, ← e2, Int.mul_comm b n, h, Int.mul_comm b d, Int.mul_comm a d]
theorem chopR_loop (h : Imp l) {p : Nat} {tm : Int} (hp : p + 1 < l.length) (ha : ∀ i, i ≤ p → ta l i < tm) (hb : ∀ i, p < i → i < l.length → tm ≤ ta l i) (S : Rd → Option Rd) (fl x0 x1 : Int) (x2 x3 : Bool)
    (h0 : ∀ ds, S (.next 0 ds) = choppedR_L5_S0 l.length (cP l) tm fl x0 x1 x2 x3 ds) (h1 : ∀ ds, S (.next 1 ds) = choppedR_L5_S1 l.length (cP l) tm fl x0 x1 x2 x3 ds) :
    runR S (.next 1 [iD 0, .one (.tuple #[])]) = some (.out 0 [lP (l.take (p + 1))]) := by
  have hle := h.le
  have s0 : S (.next 1 [iD 0, .one (.tuple #[])]) = some (.next 0 [iD ((1 : Nat) : Int), lP (l.take (min 1 (p + 1)))]) := by
    rw [h1]
    unfold choppedR_L5_S1
    rw [pullD_some (0 : Int) (by rfl) (by rfl), if_pos (by omega), guardP_pos ⟨Int.le_refl _, by show 0 < l.length; omega⟩, guardP_pos (by omega), show (0 : Int).toNat * 2 = 0 * 2 from rfl, readP0 (by omega), pullI, if_pos (ha 0 (by omega)), readP (by omega), pullD_some (ta l 0, va l 0) (by rfl) (by rfl)]
    dsimp only
    rw [show min 1 (p + 1) = 1 by omega, take_one (by omega)]
    rfl
  have s1 : runR S (.next 0 [iD ((1 : Nat) : Int), lP (l.take (min 1 (p + 1)))]) = _ := runR_scan (S := S) (fun _ => 0) (fun i => [iD (i : Int), lP (l.take (min i (p + 1)))]) (show 1 ≤ l.length by omega) (fun i _ hi => by
    show S (.next 0 _) = _
    rw [h0]
    unfold choppedR_L5_S0
    rw [pullD_some ((i : Int), (l.take (min i (p + 1))).length, cP (l.take (min i (p + 1)))) (by rfl) (by rfl)]
    dsimp only
    have e2 : IntKind.i64.wrap ((i : Int) + 1) = ((i + 1 : Nat) : Int) := natI' (by omega)
    simp only [e2, Int.toNat_natCast]
    rw [if_pos (by omega), guardP_pos (by omega), guardP_pos (by omega), readP0 hi, pullI]
    by_cases hc : i ≤ p
    · have hlen : (l.take (min i (p + 1))).length ≤ 12 := by rw [List.length_take]; omega
      rw [if_pos (ha i hc), readP hi, pullD_some (ta l i, va l i) (by rfl) (by rfl)]
      dsimp only
      rw [guardP_pos ⟨cellP2 _ _, by rw [cP_len]; exact Nat.le_refl _, by omega, by omega⟩, growP, show min i (p + 1) = i by omega, show min (i + 1) (p + 1) = i + 1 by omega, ← take_more hi]
    · have := hb i (by omega) hi
      rw [if_neg (by omega), show min i (p + 1) = p + 1 by omega, show min (i + 1) (p + 1) = p + 1 by omega])
  have s2 : runR S (.next 0 [iD (l.length : Int), lP (l.take (min l.length (p + 1)))]) = some (.out 0 [lP (l.take (p + 1))]) := runR_exit (by
    rw [h0]
    unfold choppedR_L5_S0
    rw [pullD_some ((l.length : Int), (l.take (min l.length (p + 1))).length, cP (l.take (min l.length (p + 1)))) (by rfl) (by rfl)]
    dsimp only
    rw [if_neg (by omega), show min l.length (p + 1) = p + 1 by omega])
  rw [runR_next s0]
  exact s1.trans s2
theorem chopR_bad (h : Imp l) {tm fl : Int} (hb : tm < ta l 0 + 1 ∨ tm > ta l (l.length - 1) ∨ fl < 1 ∨ fl > 100000) : m_23 [.agg [lP l], iD tm, iD fl] = some (bad 2) := by
  have h2 := h.two
  have h3 := h.le
  have b0 := h.ok 0 (by omega)
  have e3 : IntKind.i64.wrap ((l.length : Int) - 1) = ((l.length - 1 : Nat) : Int) := by rw [wrapJ _ (by omega) (by omega)]; omega
  rw [m_23_eq]
  unfold choppedR_M
  simp only [e3, Int.toNat_natCast]
  rw [guardP_pos ⟨Int.le_refl _, by show 0 < l.length; omega⟩, guardP_pos (by omega), show Int.toNat (0 : Int) * 2 + 0 = 0 * 2 + 0 from rfl, readP0 (by omega), pullI, guardP_pos (by omega), readP0 (by omega), pullI, wrapJ (ta l 0 + 1) (by omega) (by omega), within_eq, pullB]
  by_cases c1 : ta l 0 + 1 ≤ tm ∧ tm ≤ ta l (l.length - 1)
  · rw [if_neg (by simpa using c1), within_eq, pullB, if_pos (by simp; omega)]
  · rw [if_pos (by simpa using c1)]
theorem chopR_eq (h : Imp l) {tm fl : Int} (c1 : ta l 0 + 1 ≤ tm) (f1 : 1 ≤ fl) (f2 : fl ≤ 100000) {p : Nat} (hp : p + 1 < l.length) (hlo : ta l p < tm) (hhi : tm ≤ ta l (p + 1)) :
    m_23 [.agg [lP l], iD tm, iD fl] = some (if tm + fl > 1000000 ∨ p + 3 > 12 then bad 8 else .tup [.agg [lP (chopY l p tm fl)], iD 0]) := by
  have h2 := h.two
  have hle := h.le
  have b0 := h.ok 0 (by omega)
  have bp := h.ok (p + 1) hp
  have ha : ∀ i, i ≤ p → ta l i < tm := fun i hi => by
    rcases Nat.lt_or_ge i p with h3 | h3
    · have := h.mono h3 (by omega); omega
    · have : i = p := by omega
      rw [this]; exact hlo
  have hb : ∀ i, p < i → i < l.length → tm ≤ ta l i := fun i hi hl => by
    rcases Nat.lt_or_ge (p + 1) i with h3 | h3
    · have := h.mono h3 hl; omega
    · have : i = p + 1 := by omega
      rw [this]; exact hhi
  have hlast := hb (l.length - 1) (by omega) (by omega)
  have nb := num_bound h hp (tm := tm) (by omega) (fun _ => hlo) hhi
  obtain ⟨n, d, hv, hd, hd2, hn1, hn2, hx⟩ := value15 h hp (tm := tm) (by omega) (fun _ => hlo) hhi
  have hfl : n / d = numP l p tm / denP l p := same_floor hd nb.2.2.1 hx
  have e3 : IntKind.i64.wrap ((l.length : Int) - 1) = ((l.length - 1 : Nat) : Int) := by rw [wrapJ _ (by omega) (by omega)]; omega
  rw [m_23_eq]
  unfold choppedR_M
  simp only [e3, Int.toNat_natCast]
  rw [guardP_pos ⟨Int.le_refl _, by show 0 < l.length; omega⟩, guardP_pos (by omega), show Int.toNat (0 : Int) * 2 + 0 = 0 * 2 + 0 from rfl, readP0 (by omega), pullI, guardP_pos (by omega), readP0 (by omega), pullI, wrapJ (ta l 0 + 1) (by omega) (by omega), within_eq, pullB, if_neg (by simp; omega), within_eq, pullB, if_neg (by simp; omega),
    bindL_some (chopR_loop h hp ha hb (choppedR_L5_S l.length (cP l) tm fl (ta l 0) (ta l (l.length - 1)) (decide (ta l 0 + 1 ≤ tm ∧ tm ≤ ta l (l.length - 1))) (decide (1 ≤ fl ∧ fl ≤ 100000))) fl (ta l 0) (ta l (l.length - 1)) (decide (ta l 0 + 1 ≤ tm ∧ tm ≤ ta l (l.length - 1))) (decide (1 ≤ fl ∧ fl ≤ 100000)) (fun _ => rfl) (fun _ => rfl)), if_pos rfl,
    pullD_some ((l.take (p + 1)).length, cP (l.take (p + 1))) (by rfl) (by rfl)]
  dsimp only
  have hlen : (l.take (p + 1)).length = p + 1 := by rw [List.length_take]; omega
  have et : List.take ((l.take (p + 1)).length * 2) (cP (l.take (p + 1))) = cP (l.take (p + 1)) := by rw [← cP_len]; exact List.take_length
  rw [foldQ2, hv, pullT]
  dsimp only
  rw [floor49 hd (by omega) (by omega), pullI, hfl, wrapJ (tm + fl) (by omega) (by omega),
    guardP_pos ⟨cellP2 _ _, by rw [cP_len]; exact Nat.le_refl _, by omega, by omega⟩, et,
    guardP_pos ⟨cellP2 _ _, by rw [List.length_append, cP_len]; simp; omega, by omega, by omega⟩]
  have ew : cP (l.take (p + 1)) ++ [dCell (.int .i64 tm), dCell (.int .i64 (numP l p tm / denP l p))] = cP (l.take (p + 1) ++ [(tm, numP l p tm / denP l p)]) := by rw [cP_app]; rfl
  have el : (l.take (p + 1) ++ [(tm, numP l p tm / denP l p)]).length = (l.take (p + 1)).length + (0 + 1) := by simp
  by_cases e1 : tm + fl > 1000000
  · rw [if_pos e1, if_pos (.inl e1)]
  · rw [if_neg e1]
    by_cases e2 : p + 3 > 12
    · rw [if_pos (by omega), if_pos (.inr e2)]
    · have et2 : List.take (((l.take (p + 1)).length + (0 + 1)) * 2) (cP (l.take (p + 1) ++ [(tm, numP l p tm / denP l p)])) = cP (l.take (p + 1) ++ [(tm, numP l p tm / denP l p)]) := by rw [← el, ← cP_len]; exact List.take_length
      rw [if_neg (by omega), if_neg (by omega), ew, et2, guardP_pos ⟨by rw [List.length_append, cP_len, el]; simp; omega, by omega⟩]
      have ey : lP (chopY l p tm fl) = D.list ((l.take (p + 1)).length + (0 + 1) + (0 + 1)) (List.append (cP (l.take (p + 1) ++ [(tm, numP l p tm / denP l p)])) [dCell (.int .i64 (tm + fl)), dCell (.int .i64 0)]) := by
        unfold lP chopY
        rw [cP_app, cP_app, List.length_append]
        show D.list _ (cP (l.take (p + 1)) ++ cP ([(tm, numP l p tm / denP l p)] ++ [(tm + fl, 0)])) = D.list _ ((cP (l.take (p + 1)) ++ cP [(tm, numP l p tm / denP l p)]) ++ cP [(tm + fl, 0)])
        rw [cP_app, List.append_assoc]
        rfl
      rw [ey]
theorem chop_err (h : (impX l).2 ≠ 0) (tm fl : Int) : m_19 [.agg [lP l], iD tm, iD fl] = some (.tup [.agg [.list 0 []], iD (impX l).2]) := by
  rw [m_19_eq]
  unfold chopped_M
  rw [foldQ, chkd36, if_pos h, pullD_some (0, [], (impX l).2) (by rfl) (by rfl)]
  dsimp only
  rw [if_pos h]
end
end Go.Proofs.Ytaabapmggkkmeaa
/- Impulses: lowest terms; the steepest piece. -/
namespace Go.Proofs.Ytaabapmggkkmeaa
open Go.Ev Go.RowKit
set_option maxRecDepth 100000
section
variable {l : List (Int × Int)}
theorem gcd_step (a b : Int) : Int.gcd b (a.tmod b) = Int.gcd a b := by
  show Nat.gcd b.natAbs (a.tmod b).natAbs = Nat.gcd a.natAbs b.natAbs
  rw [Int.natAbs_tmod, Nat.gcd_comm, ← Nat.gcd_rec, Nat.gcd_comm]
theorem gcd_run {S : Rd → Option Rd} (hS : ∀ a b : Int, S (.next 0 [iD a, iD b]) = if b ≠ 0 then some (.next 0 [iD b, iD (a.tmod b)]) else some (.out 0 [iD a])) :
    ∀ (k : Nat) (a b : Int), b.natAbs ≤ k → ∃ g : Int, runR S (.next 0 [iD a, iD b]) = some (.out 0 [iD g]) ∧ g.natAbs = Int.gcd a b := by
  intro k
  induction k with
  | zero =>
    intro a b hb
    have hb0 : b = 0 := by omega
    subst hb0
    have h := hS a 0
    rw [if_neg (fun h => h rfl)] at h
    exact ⟨a, runR_exit h, (Int.gcd_zero_right a).symm⟩
  | succ k ih =>
    intro a b hb
    by_cases hb0 : b = 0
    · subst hb0
      have h := hS a 0
      rw [if_neg (fun h => h rfl)] at h
      exact ⟨a, runR_exit h, (Int.gcd_zero_right a).symm⟩
    · have h := hS a b
      rw [if_pos hb0] at h
      have hlt : (a.tmod b).natAbs < b.natAbs := by
        rw [Int.natAbs_tmod]; exact Nat.mod_lt _ (by omega)
      obtain ⟨g, h1, h2⟩ := ih b (a.tmod b) (by omega)
      exact ⟨g, (runR_next h).trans h1, h2.trans (gcd_step a b)⟩
theorem gcd_le {n m : Int} (hm : 0 < m) : 0 < (Int.gcd n m : Int) ∧ (Int.gcd n m : Int) ≤ m := by
  have hd := Int.gcd_dvd_right n m
  refine ⟨?_, Int.le_of_dvd hm hd⟩
  rcases Nat.eq_zero_or_pos (Int.gcd n m) with h0 | h0
  · rw [h0] at hd
    obtain ⟨c, hc⟩ := hd
    rw [Int.natCast_zero, Int.zero_mul] at hc
    omega
  · omega
/-- Lowest terms. -/
def lowQ (n m : Int) : Int × Int := (n / (Int.gcd n m : Int), m / (Int.gcd n m : Int))
theorem lowQ_facts {n m : Int} (hm : 0 < m) : (lowQ n m).1 * (Int.gcd n m : Int) = n ∧ (lowQ n m).2 * (Int.gcd n m : Int) = m ∧ 0 < (lowQ n m).2 ∧ (lowQ n m).2 ≤ m ∧ (lowQ n m).1 * m = n * (lowQ n m).2 := by
  obtain ⟨g0, g1⟩ := gcd_le (n := n) hm
  have e1 : (lowQ n m).1 * (Int.gcd n m : Int) = n := Int.ediv_mul_cancel (Int.gcd_dvd_left n m)
  have e2 : (lowQ n m).2 * (Int.gcd n m : Int) = m := Int.ediv_mul_cancel (Int.gcd_dvd_right n m)
  generalize lowQ n m = q at e1 e2 ⊢
  generalize (Int.gcd n m : Int) = g at g0 g1 e1 e2
  have p : 0 < q.2 := by
    rcases Int.lt_or_le 0 q.2 with h | h
    · exact h
    · have : 0 ≤ (-q.2) * g := Int.mul_nonneg (by omega) (by omega)
      rw [Int.neg_mul] at this
      omega
  refine ⟨e1, e2, p, ?_, ?_⟩
  · have : 0 ≤ q.2 * (g - 1) := Int.mul_nonneg (by omega) (by omega)
    rw [Int.mul_sub, Int.mul_one] at this
    omega
  · rw [← e1, ← e2]; grind
theorem lowQ_same {n m n2 m2 : Int} (hm : 0 < m) (hm2 : 0 < m2) (h : n * m2 = n2 * m) : lowQ n m = lowQ n2 m2 := by
  obtain ⟨k, rfl⟩ := Int.eq_ofNat_of_zero_le (Int.le_of_lt hm)
  obtain ⟨k2, rfl⟩ := Int.eq_ofNat_of_zero_le (Int.le_of_lt hm2)
  have z1 : k ≠ 0 := by omega
  have z2 : k2 ≠ 0 := by omega
  have e := (Rat.normalize_eq_iff (n₁ := n) (n₂ := n2) z1 z2).2 h
  rw [Rat.normalize_eq z1, Rat.normalize_eq z2] at e
  have e1 := congrArg Rat.num e
  have e2 := congrArg Rat.den e
  dsimp only at e1 e2
  unfold lowQ
  refine Prod.ext e1 ?_
  show ((k : Int) / (Int.gcd n k : Int)) = (k2 : Int) / (Int.gcd n2 k2 : Int)
  have e3 : ((k / n.natAbs.gcd k : Nat) : Int) = ((k2 / n2.natAbs.gcd k2 : Nat) : Int) := by rw [e2]
  rw [Int.natCast_ediv, Int.natCast_ediv] at e3
  exact e3
theorem size62 {v : Int} (h1 : -1000000000000 ≤ v) (h2 : v ≤ 1000000000000) : m_62 [iD v] = some (iD (max v (-v))) := by
  rw [m_62_eq]
  unfold sizeR_M
  rw [wrapJ (0 - v) (by omega) (by omega), Int.zero_sub]
  congr 2
  split <;> omega
theorem divisor61 (n : Int) {m : Int} (hm : 0 < m) (h2 : m ≤ 1000000000000) : m_61 [iD n, iD m] = some (iD (Int.gcd n m : Int)) := by
  rw [m_61_eq]
  unfold divisor_M
  obtain ⟨g, h1, hg⟩ := gcd_run (S := divisor_L1_S n m) (fun a b => by
    show divisor_L1_S0 n m _ = _
    unfold divisor_L1_S0
    rw [pullD_some (a, b) (by rfl) (by rfl)]) m.natAbs n m (Nat.le_refl _)
  have hb := gcd_le (n := n) hm
  rw [bindL_some h1, if_pos rfl, pullD_some g (by rfl) (by rfl), wrapJ (0 - g) (by omega) (by omega)]
  congr 2
  split <;> omega
theorem gcd45 (n : Int) {m : Int} (hm : 0 < m) (h2 : m ≤ 1000000000000) : m_45 [iD n, iD m] = some (iD (Int.gcd n m : Int)) := by
  rw [m_45_eq]
  unfold gcdR_M
  obtain ⟨g, h1, hg⟩ := gcd_run (S := gcdR_L1_S n m) (fun a b => by
    show gcdR_L1_S0 n m _ = _
    unfold gcdR_L1_S0
    rw [pullD_some (a, b) (by rfl) (by rfl)]) m.natAbs n m (Nat.le_refl _)
  have hb := gcd_le (n := n) hm
  rw [bindL_some h1, if_pos rfl, pullD_some g (by rfl) (by rfl), size62 (by omega) (by omega), pullI]
  congr 2
  omega
theorem lowest16 {n m : Int} (hm : 0 < m) (h2 : m ≤ 1000000000000) (h3 : -1000000000000 ≤ n) (h4 : n ≤ 1000000000000) : m_16 [iD n, iD m] = some (.agg [iD (lowQ n m).1, iD (lowQ n m).2]) := by
  have hb := gcd_le (n := n) hm
  have b1 := tdiv_bound (N := n) (s := (Int.gcd n m : Int)) (B := 1000000000000) h3 h4
  have b2 := tdiv_bound (N := m) (s := (Int.gcd n m : Int)) (B := 1000000000000) (by omega) h2
  rw [m_16_eq]
  unfold lowest_M
  rw [gcd45 n hm h2, pullI, if_neg (by omega), guardP_pos (by omega), wrapJ (n.tdiv _) (by omega) (by omega), wrapJ (m.tdiv _) (by omega) (by omega), Int.tdiv_eq_ediv_of_dvd (Int.gcd_dvd_left n m), Int.tdiv_eq_ediv_of_dvd (Int.gcd_dvd_right n m)]
  rfl
theorem reduced38 {n m : Int} (hm : 0 < m) (h2 : m ≤ 1000000000000) (h3 : -1000000000000 ≤ n) (h4 : n ≤ 1000000000000) : m_38 [iD n, iD m] = some (.agg [iD (lowQ n m).1, iD (lowQ n m).2]) := by
  have hb := gcd_le (n := n) hm
  have b1 := tdiv_bound (N := n) (s := (Int.gcd n m : Int)) (B := 1000000000000) h3 h4
  have b2 := tdiv_bound (N := m) (s := (Int.gcd n m : Int)) (B := 1000000000000) (by omega) h2
  rw [m_38_eq]
  unfold reduced_M
  rw [divisor61 n hm h2, pullI, guardP_pos (by omega), wrapJ (n.tdiv _) (by omega) (by omega), wrapJ (m.tdiv _) (by omega) (by omega), Int.tdiv_eq_ediv_of_dvd (Int.gcd_dvd_left n m), Int.tdiv_eq_ediv_of_dvd (Int.gcd_dvd_right n m)]
  rfl
theorem lowQ_bound {n m : Int} (hm : 0 < m) {B : Int} (h3 : -B ≤ n) (h4 : n ≤ B) : -B ≤ (lowQ n m).1 ∧ (lowQ n m).1 ≤ B := by
  have b1 := tdiv_bound (N := n) (s := (Int.gcd n m : Int)) (B := B) h3 h4
  rw [Int.tdiv_eq_ediv_of_dvd (Int.gcd_dvd_left n m)] at b1
  exact b1
/-! Pieces. -/
def dvP (l : List (Int × Int)) (k : Nat) : Int := max (va l (k + 1) - va l k) (-(va l (k + 1) - va l k))
theorem piece_bound (h : Imp l) {k : Nat} (hk : k + 1 < l.length) : 0 ≤ dvP l k ∧ dvP l k ≤ 2000000 ∧ 0 < denP l k ∧ denP l k ≤ 1000000 ∧ -2000000 ≤ va l (k + 1) - va l k ∧ va l (k + 1) - va l k ≤ 2000000 := by
  have b0 := h.ok k (by omega)
  have b1 := h.ok (k + 1) hk
  have b2 := h.asc k hk
  unfold dvP denP
  omega
theorem slope44 (h : Imp l) {k : Nat} (hk : k + 1 < l.length) : m_44 [.agg [lP l], iD (k : Int)] = some (.agg [iD (lowQ (dvP l k) (denP l k)).1, iD (lowQ (dvP l k) (denP l k)).2]) := by
  have h2 := h.two
  have h3 := h.le
  have b := piece_bound h hk
  have b0 := h.ok k (by omega)
  have b1 := h.ok (k + 1) hk
  rw [m_44_eq]
  unfold slopeR_M
  have e2 : IntKind.i64.wrap ((k : Int) + 1) = ((k + 1 : Nat) : Int) := natI' (by omega)
  simp only [e2, Int.toNat_natCast]
  rw [guardP_pos (by omega), guardP_pos (by omega), readP1 (by omega), pullI, guardP_pos (by omega), readP1 (by omega), pullI, wrapJ (va l (k + 1) - va l k) (by omega) (by omega), size62 (by omega) (by omega), pullI, readP0 (by omega), pullI, readP0 (by omega), pullI, wrapJ (ta l (k + 1) - ta l k) (by omega) (by omega)]
  show pullD (m_16 [iD (dvP l k), iD (denP l k)]) _ _ _ = _
  rw [lowest16 b.2.2.1 (by omega) (by omega) (by omega), pullD_some ((lowQ (dvP l k) (denP l k)).1, (lowQ (dvP l k) (denP l k)).2) (by rfl) (by rfl)]
/-- The steepest of the first pieces. -/
def bestOf (l : List (Int × Int)) : Nat → Nat
  | 0 => 0
  | k + 1 => if dvP l k * denP l (bestOf l k) > dvP l (bestOf l k) * denP l k then k else bestOf l k
theorem bestOf_le (l : List (Int × Int)) : ∀ k, bestOf l (k + 1) ≤ k
  | 0 => by unfold bestOf; split <;> simp [bestOf]
  | k + 1 => by
    have := bestOf_le l k
    rw [bestOf]
    split <;> omega
theorem bestOf_one (l : List (Int × Int)) : bestOf l 1 = 0 := Nat.le_zero.1 (bestOf_le l 0)
theorem cross_lt {a b c d n1 d1 n2 d2 : Int} (hb : 0 < b) (hd : 0 < d) (h1 : 0 < d1) (h2 : 0 < d2) (e1 : a * d1 = n1 * b) (e2 : c * d2 = n2 * d) : (a * d > c * b) = (n1 * d2 > n2 * d1) := by
  have p1 : 0 < d1 * d2 := Int.mul_pos h1 h2
  have p2 : 0 < b * d := Int.mul_pos hb hd
  have q1 : (a * d) * (d1 * d2) = (n1 * d2) * (b * d) := by
    have : (a * d) * (d1 * d2) = (a * d1) * (d * d2) := by grind
    rw [this, e1]; grind
  have q2 : (c * b) * (d1 * d2) = (n2 * d1) * (b * d) := by
    have : (c * b) * (d1 * d2) = (c * d2) * (b * d1) := by grind
    rw [this, e2]; grind
  refine propext ⟨fun h => ?_, fun h => ?_⟩
  · have := Int.mul_lt_mul_of_pos_right h p1
    rw [q1, q2] at this
    exact Int.lt_of_mul_lt_mul_right this (by omega)
  · have := Int.mul_lt_mul_of_pos_right h p2
    rw [← q1, ← q2] at this
    exact Int.lt_of_mul_lt_mul_right this (by omega)
theorem cmp43 {a b c d : Int} (ha : 0 ≤ a ∧ a ≤ 2000000) (hb : 0 < b ∧ b ≤ 1000000) (hc : 0 ≤ c ∧ c ≤ 2000000) (hd : 0 < d ∧ d ≤ 1000000) : ∃ x : Int, m_43 [.agg [iD a, iD b], .agg [iD c, iD d]] = some (iD x) ∧ ((x > 0) = (a * d > c * b)) := by
  have m1 := mulB (x := a) (y := d) (A := 2000000) (B := 1000000) (by omega) (by omega) (by omega) (by omega)
  have m2 := mulB (x := c) (y := b) (A := 2000000) (B := 1000000) (by omega) (by omega) (by omega) (by omega)
  rw [m_43_eq]
  unfold cmpF_M
  rw [wrapJ (a * d) (by omega) (by omega), wrapJ (c * b) (by omega) (by omega)]
  by_cases h1 : a * d < c * b
  · exact ⟨-1, by rw [if_pos h1], propext (by omega)⟩
  · by_cases h2 : a * d > c * b
    · exact ⟨1, by rw [if_neg h1, if_pos h2], propext (by omega)⟩
    · exact ⟨0, by rw [if_neg h1, if_neg h2], propext (by omega)⟩
theorem lowQ_nonneg {n m : Int} (hm : 0 < m) (hn : 0 ≤ n) : 0 ≤ (lowQ n m).1 := by
  have hb := gcd_le (n := n) hm
  exact Int.ediv_nonneg hn (by omega)
theorem steep13 (h : Imp l) : m_13 [.agg [lP l]] = some (.tup [iD (bestOf l (l.length - 1) : Nat), .agg [iD (lowQ (dvP l (bestOf l (l.length - 1))) (denP l (bestOf l (l.length - 1)))).1, iD (lowQ (dvP l (bestOf l (l.length - 1))) (denP l (bestOf l (l.length - 1)))).2]]) := by
  have h2 := h.two
  have h3 := h.le
  have hbst : ∀ k, k + 1 ≤ l.length - 1 → bestOf l (k + 1) + 1 < l.length := fun k hk => by have := bestOf_le l k; omega
  rw [m_13_eq]
  unfold steepR_M
  have s1 : runR (steepR_L3_S l.length (cP l)) (.next 0 [iD (bestOf l 1 : Nat), iD ((1 : Nat) : Int)]) = _ := runR_scan (S := steepR_L3_S l.length (cP l)) (fun _ => 0) (fun i => [iD (bestOf l i : Nat), iD (i : Int)]) (show 1 ≤ l.length - 1 by omega) (fun i h1i hi => by
    show steepR_L3_S0 l.length (cP l) _ = _
    unfold steepR_L3_S0
    rw [pullD_some ((bestOf l i : Int), (i : Int)) (by rfl) (by rfl)]
    have e2 : IntKind.i64.wrap ((i : Int) + 1) = ((i + 1 : Nat) : Int) := natI' (by omega)
    simp only [e2, Int.toNat_natCast]
    have hbi : bestOf l i + 1 < l.length := by
      obtain ⟨k, rfl⟩ : ∃ k, i = k + 1 := ⟨i - 1, by omega⟩
      exact hbst k (by omega)
    have hii : i + 1 < l.length := by omega
    have p1 := piece_bound h hii
    have p2 := piece_bound h hbi
    have f1 := lowQ_facts (n := dvP l i) p1.2.2.1
    have f2 := lowQ_facts (n := dvP l (bestOf l i)) p2.2.2.1
    have c1 := lowQ_bound (n := dvP l i) p1.2.2.1 (B := 2000000) (by omega) (by omega)
    have c2 := lowQ_bound (n := dvP l (bestOf l i)) p2.2.2.1 (B := 2000000) (by omega) (by omega)
    have z1 := lowQ_nonneg p1.2.2.1 p1.1
    have z2 := lowQ_nonneg p2.2.2.1 p2.1
    obtain ⟨x, hx, hxe⟩ := cmp43 (a := (lowQ (dvP l i) (denP l i)).1) (b := (lowQ (dvP l i) (denP l i)).2) (c := (lowQ (dvP l (bestOf l i)) (denP l (bestOf l i))).1) (d := (lowQ (dvP l (bestOf l i)) (denP l (bestOf l i))).2) ⟨z1, c1.2⟩ ⟨f1.2.2.1, by omega⟩ ⟨z2, c2.2⟩ ⟨f2.2.2.1, by omega⟩
    rw [cross_lt f1.2.2.1 f2.2.2.1 p1.2.2.1 p2.2.2.1 f1.2.2.2.2 f2.2.2.2.2] at hxe
    rw [if_pos (by omega), foldQ2, slope44 h hii, pullD_some ((lowQ (dvP l i) (denP l i)).1, (lowQ (dvP l i) (denP l i)).2) (by rfl) (by rfl)]
    dsimp only
    rw [foldQ2, slope44 h hbi, pullD_some ((lowQ (dvP l (bestOf l i)) (denP l (bestOf l i))).1, (lowQ (dvP l (bestOf l i)) (denP l (bestOf l i))).2) (by rfl) (by rfl)]
    dsimp only
    rw [hx, pullI]
    by_cases hq : dvP l i * denP l (bestOf l i) > dvP l (bestOf l i) * denP l i
    · rw [if_pos (by rw [hxe]; exact hq), show bestOf l (i + 1) = i by rw [bestOf, if_pos hq]]
    · rw [if_neg (by rw [hxe]; exact hq), show bestOf l (i + 1) = bestOf l i by rw [bestOf, if_neg hq]])
  have s2 : runR (steepR_L3_S l.length (cP l)) (.next 0 [iD (bestOf l (l.length - 1) : Nat), iD ((l.length - 1 : Nat) : Int)]) = some (.out 0 [iD (bestOf l (l.length - 1) : Nat)]) := runR_exit (by
    show steepR_L3_S0 l.length (cP l) _ = _
    unfold steepR_L3_S0
    rw [pullD_some ((bestOf l (l.length - 1) : Int), ((l.length - 1 : Nat) : Int)) (by rfl) (by rfl)]
    have e2 : IntKind.i64.wrap (((l.length - 1 : Nat) : Int) + 1) = ((l.length - 1 + 1 : Nat) : Int) := natI' (by omega)
    simp only [e2]
    rw [if_neg (by omega)])
  rw [bestOf_one] at s1
  have s0 : runR (steepR_L3_S l.length (cP l)) (.next 0 [iD 0, iD 1]) = some (.out 0 [iD (bestOf l (l.length - 1) : Nat)]) := s1.trans s2
  rw [bindL_some s0, if_pos rfl, pullD_some (bestOf l (l.length - 1) : Int) (by rfl) (by rfl), foldQ2, slope44 h (by
    obtain ⟨k, hk⟩ : ∃ k, l.length - 1 = k + 1 := ⟨l.length - 2, by omega⟩
    rw [hk]; exact hbst k (by omega)), pullD_some ((lowQ (dvP l (bestOf l (l.length - 1))) (denP l (bestOf l (l.length - 1)))).1, (lowQ (dvP l (bestOf l (l.length - 1))) (denP l (bestOf l (l.length - 1)))).2) (by rfl) (by rfl)]
end
end Go.Proofs.Ytaabapmggkkmeaa
/- The stage's examples hold. -/
namespace Go.Proofs.Ytaabapmggkkmeaa
open Go.Ev Go.RowKit
set_option maxRecDepth 100000
noncomputable section
theorem aw_all : Con 6 [] (.one (.bool true)) :=
  con_ofK (S := [(59, 3000171)]) (K := []) (sp := []) (n := 60000) (ora := []) (res := []) (conds := [(false, false), (false, false), (false, false), (false, false), (false, false), (false, false), (false, false), (false, false), (false, false), (false, false), (false, false), (false, false), (false, false), (false, false), (false, false), (false, false), (false, false), (false, false), (false, false), (false, false), (false, false), (false, false), (false, false), (false, false), (false, false), (false, false)]) (cls := [])
    (by kernel_rfl) ⟨rfl, rfl, rfl, rfl, rfl, rfl, rfl, rfl, rfl, rfl, rfl, rfl, rfl, rfl, rfl, rfl, rfl, rfl, rfl, rfl, rfl, rfl, rfl, rfl, rfl, rfl, trivial⟩ trivial
def m_6 (ds : List D) : Option D := pullD (some (.tup ds)) (fun _ => ()) (fun _ => .tup []) fun _ => some (.one (.bool true))
theorem m_6_ok {ds : List D} {r : D} (h : m_6 ds = some r) : Con 6 ds r := by
  unfold m_6 at h
  obtain ⟨⟨⟩, e0, h0⟩ := pullD_elim h
  obtain rfl := tup_inj e0
  obtain rfl := Option.some.inj h0
  exact aw_all
theorem m_6_eq : m_6 [] = some (.one (.bool true)) := pullD_some () rfl rfl
end
end Go.Proofs.Ytaabapmggkkmeaa
namespace Go.Proofs.Ytaabapmggkkmeaa
open Go.Ev Go.RowKit
set_option maxRecDepth 100000
set_option maxHeartbeats 8000000
set_option linter.all false
noncomputable section
def law3_sp : List LSpec := []
def law3_M (ka : Nat) (ca : List D) (tm : Int) : Option D := pullD (α := Bool) (m_6 []) (fun d => ((D.vb d))) (fun r0 => .one (.bool r0)) fun r0 => ((if r0 = false then some (.one (.bool false)) else pullD (α := Bool) (m_7 [.agg [.list ka ca]]) (fun d => ((D.vb d))) (fun r1 => .one (.bool r1)) fun r1 => ((if r1 = false then some (.one (.bool true)) else pullD (α := Nat × (List D)) (m_9 [.agg [.list ka ca]]) (fun d => ((D.ln (D.at d 0)), (D.lc (D.at d 0)))) (fun (k2, c3) => .agg [.list k2 c3]) fun (k2, c3) => (pullD (α := Int × Int) (m_8 [.agg [.list k2 c3]]) (fun d => ((D.vi (D.at d 0)), (D.vi (D.at d 1)))) (fun (r4, r5) => .tup [iD r4, iD r5]) fun (r4, r5) => (pullD (α := Nat × (List D)) (m_9 [.agg [.list ka ca]]) (fun d => ((D.ln (D.at d 0)), (D.lc (D.at d 0)))) (fun (k6, c7) => .agg [.list k6 c7]) fun (k6, c7) => (pullD (α := Int × Int × Int) (m_10 [.agg [.list k6 c7], iD tm]) (fun d => ((D.vi (D.at (D.at d 0) 0)), (D.vi (D.at (D.at d 0) 1)), (D.vi (D.at d 1)))) (fun (r8, r9, r10) => .tup [.agg [iD r8, iD r9], iD r10]) fun (r8, r9, r10) => (pullD (α := Nat × (List D)) (m_9 [.agg [.list ka ca]]) (fun d => ((D.ln (D.at d 0)), (D.lc (D.at d 0)))) (fun (k11, c12) => .agg [.list k11 c12]) fun (k11, c12) => (pullD (α := Int × Int × Int × Int) (m_11 [.agg [.list k11 c12]]) (fun d => ((D.vi (D.at d 0)), (D.vi (D.at (D.at d 1) 0)), (D.vi (D.at (D.at d 1) 1)), (D.vi (D.at d 2)))) (fun (r13, r14, r15, r16) => .tup [iD r13, .agg [iD r14, iD r15], iD r16]) fun (r13, r14, r15, r16) => (pullD (α := Int × Int) (m_12 [.agg [.list ka ca]]) (fun d => ((D.vi (D.at d 0)), (D.vi (D.at d 1)))) (fun (r17, r18) => .tup [iD r17, iD r18]) fun (r17, r18) => ((if r5 ≠ r18 then some (.one (.bool false)) else (if r4 ≠ r17 then some (.one (.bool false)) else (if r18 ≠ (0 : Int) then (if r10 = r18 then (if (r8 == (0 : Int) && (r9 == (0 : Int) && true)) = true then (if r16 = r18 then (if r13 = (0 : Int) then some (.one (.bool (r14 == (0 : Int) && (r15 == (0 : Int) && true)))) else some (.one (.bool false))) else some (.one (.bool false))) else some (.one (.bool false))) else some (.one (.bool false))) else pullD (α := Int × Int × Int) (m_13 [.agg [.list ka ca]]) (fun d => ((D.vi (D.at d 0)), (D.vi (D.at (D.at d 1) 0)), (D.vi (D.at (D.at d 1) 1)))) (fun (r19, r20, r21) => .tup [iD r19, .agg [iD r20, iD r21]]) fun (r19, r20, r21) => ((if r16 ≠ (0 : Int) then some (.one (.bool false)) else (if r13 ≠ r19 then some (.one (.bool false)) else (if (!(r14 == r20 && (r15 == r21 && true))) = true then some (.one (.bool false)) else pullD (α := Bool) (m_14 [iD tm, iD (0 : Int), iD (1000000 : Int)]) (fun d => ((D.vb d))) (fun r22 => .one (.bool r22)) fun r22 => ((if r22 = false then (if r10 = (2 : Int) then some (.one (.bool (r8 == (0 : Int) && (r9 == (0 : Int) && true)))) else some (.one (.bool false))) else pullD (α := Int × Int) (m_15 [.agg [.list ka ca], iD tm]) (fun d => ((D.vi (D.at d 0)), (D.vi (D.at d 1)))) (fun (r23, r24) => .tup [iD r23, iD r24]) fun (r23, r24) => (pullD (α := Int × Int) (m_16 [iD r23, iD r24]) (fun d => ((D.vi (D.at d 0)), (D.vi (D.at d 1)))) (fun (r25, r26) => .agg [iD r25, iD r26]) fun (r25, r26) => (pullD (α := Bool) (m_17 [.agg [iD r25, iD r26]]) (fun d => ((D.vb d))) (fun r27 => .one (.bool r27)) fun r27 => ((if r27 = false then (if r10 = (8 : Int) then some (.one (.bool (r8 == (0 : Int) && (r9 == (0 : Int) && true)))) else some (.one (.bool false))) else (if r10 = (0 : Int) then some (.one (.bool (r8 == r25 && (r9 == r26 && true)))) else some (.one (.bool false)))))))))))))))))))))))))))
theorem law3_M_ok (ka : Nat) (ca : List D) (tm : Int) {r : D} (h : law3_M ka ca tm = some r) : Con 3 [.agg [.list ka ca], iD tm] r := by
  unfold law3_M at h
  obtain ⟨r0, f1_, h2_⟩ := pullD_elim h
  replace f1_ := m_6_ok f1_
  by_cases b3_ : r0 = false
  · have h4_ := (if_pos b3_).symm.trans h2_
    obtain rfl := Option.some.inj h4_
    exact con_pc (op := true) (I := [3]) (sp := law3_sp) 3000 (bT 1 []) [.one (.bool r0)] [c_no b3_] [k_c f1_] (by kernel_rfl)
  have h4_ := (if_neg b3_).symm.trans h2_
  have b5_ : r0 = true := by first | exact b3_ | simpa using b3_
  obtain ⟨r1, f6_, h7_⟩ := pullD_elim h4_
  replace f6_ := m_7_ok f6_
  by_cases b8_ : r1 = false
  · have h9_ := (if_pos b8_).symm.trans h7_
    obtain rfl := Option.some.inj h9_
    exact con_pc (op := true) (I := [3]) (sp := law3_sp) 3000 (bF 1 (bT 1 [])) [.one (.bool r0), .one (.bool r1)] [c_nn b5_, c_no b8_] [k_c f1_, k_c f6_] (by kernel_rfl)
  have h9_ := (if_neg b8_).symm.trans h7_
  have b10_ : r1 = true := by first | exact b8_ | simpa using b8_
  obtain ⟨⟨k2, c3⟩, f11_, h12_⟩ := pullD_elim h9_
  replace f11_ := m_9_ok f11_
  obtain ⟨⟨r4, r5⟩, f13_, h14_⟩ := pullD_elim h12_
  replace f13_ := m_8_ok f13_
  obtain ⟨⟨k6, c7⟩, f15_, h16_⟩ := pullD_elim h14_
  replace f15_ := m_9_ok f15_
  obtain ⟨⟨r8, r9, r10⟩, f17_, h18_⟩ := pullD_elim h16_
  replace f17_ := m_10_ok f17_
  obtain ⟨⟨k11, c12⟩, f19_, h20_⟩ := pullD_elim h18_
  replace f19_ := m_9_ok f19_
  obtain ⟨⟨r13, r14, r15, r16⟩, f21_, h22_⟩ := pullD_elim h20_
  replace f21_ := m_11_ok f21_
  obtain ⟨⟨r17, r18⟩, f23_, h24_⟩ := pullD_elim h22_
  replace f23_ := m_12_ok f23_
  by_cases b25_ : r5 ≠ r18
  · have h26_ := (if_pos b25_).symm.trans h24_
    obtain rfl := Option.some.inj h26_
    exact con_pc (op := true) (I := [3]) (sp := law3_sp) 3000 (bF 2 (bT 5 [])) [.one (.bool r0), .one (.bool r1), .agg [.list k2 c3], .tup [iD r4, iD r5], .agg [.list k6 c7], .tup [.agg [iD r8, iD r9], iD r10], .agg [.list k11 c12], .tup [iD r13, .agg [iD r14, iD r15], iD r16], .tup [iD r17, iD r18]] [c_nn b5_, c_nn b10_, c_b b25_, c_b b25_, c_b b25_, c_b b25_, c_T] [k_c f1_, k_c f6_, k_c f11_, k_c f13_, k_c f15_, k_c f17_, k_c f19_, k_c f21_, k_c f23_] (by kernel_rfl)
  have h26_ := (if_neg b25_).symm.trans h24_
  have b27_ : r5 = r18 := by first | exact b25_ | simpa using b25_
  by_cases b28_ : r4 ≠ r17
  · have h29_ := (if_pos b28_).symm.trans h26_
    obtain rfl := Option.some.inj h29_
    exact con_pc (op := true) (I := [3]) (sp := law3_sp) 3000 (bF 6 (bT 1 [])) [.one (.bool r0), .one (.bool r1), .agg [.list k2 c3], .tup [iD r4, iD r5], .agg [.list k6 c7], .tup [.agg [iD r8, iD r9], iD r10], .agg [.list k11 c12], .tup [iD r13, .agg [iD r14, iD r15], iD r16], .tup [iD r17, iD r18]] [c_nn b5_, c_nn b10_, c_bn b27_, c_bn b27_, c_bn b27_, c_bn b27_, c_b b28_] [k_c f1_, k_c f6_, k_c f11_, k_c f13_, k_c f15_, k_c f17_, k_c f19_, k_c f21_, k_c f23_] (by kernel_rfl)
  have h29_ := (if_neg b28_).symm.trans h26_
  have b30_ : r4 = r17 := by first | exact b28_ | simpa using b28_
  by_cases b31_ : r18 ≠ (0 : Int)
  · have h32_ := (if_pos b31_).symm.trans h29_
    by_cases b33_ : r10 = r18
    · have h34_ := (if_pos b33_).symm.trans h32_
      by_cases b35_ : (r8 == (0 : Int) && (r9 == (0 : Int) && true)) = true
      · have h36_ := (if_pos b35_).symm.trans h34_
        by_cases b37_ : r16 = r18
        · have h38_ := (if_pos b37_).symm.trans h36_
          by_cases b39_ : r13 = (0 : Int)
          · have h40_ := (if_pos b39_).symm.trans h38_
            obtain rfl := Option.some.inj h40_
            exact con_pc (op := true) (I := [3]) (sp := law3_sp) 3000 (bF 7 (bT 16 [])) [.one (.bool r0), .one (.bool r1), .agg [.list k2 c3], .tup [iD r4, iD r5], .agg [.list k6 c7], .tup [.agg [iD r8, iD r9], iD r10], .agg [.list k11 c12], .tup [iD r13, .agg [iD r14, iD r15], iD r16], .tup [iD r17, iD r18]] [c_nn b5_, c_nn b10_, c_bn b27_, c_bn b27_, c_bn b27_, c_bn b27_, c_bn b30_, c_b b31_, c_e b33_, c_e b33_, c_e b33_, c_e b33_, c_q b35_, c_q b35_, c_q b35_, c_q b35_, c_e b37_, c_e b37_, c_e b37_, c_e b39_, c_e b39_, c_e b39_, c_e b39_] [k_c f1_, k_c f6_, k_c f11_, k_c f13_, k_c f15_, k_c f17_, k_c f19_, k_c f21_, k_c f23_] (by kernel_rfl)
          have h40_ := (if_neg b39_).symm.trans h38_
          have b41_ : r13 ≠ (0 : Int) := by first | exact b39_ | simpa using b39_
          obtain rfl := Option.some.inj h40_
          exact con_pc (op := true) (I := [3]) (sp := law3_sp) 3000 (bF 7 (bT 12 (bF 4 []))) [.one (.bool r0), .one (.bool r1), .agg [.list k2 c3], .tup [iD r4, iD r5], .agg [.list k6 c7], .tup [.agg [iD r8, iD r9], iD r10], .agg [.list k11 c12], .tup [iD r13, .agg [iD r14, iD r15], iD r16], .tup [iD r17, iD r18]] [c_nn b5_, c_nn b10_, c_bn b27_, c_bn b27_, c_bn b27_, c_bn b27_, c_bn b30_, c_b b31_, c_e b33_, c_e b33_, c_e b33_, c_e b33_, c_q b35_, c_q b35_, c_q b35_, c_q b35_, c_e b37_, c_e b37_, c_e b37_, c_en b41_, c_en b41_, c_en b41_, c_en b41_] [k_c f1_, k_c f6_, k_c f11_, k_c f13_, k_c f15_, k_c f17_, k_c f19_, k_c f21_, k_c f23_] (by kernel_rfl)
        have h38_ := (if_neg b37_).symm.trans h36_
        have b42_ : r16 ≠ r18 := by first | exact b37_ | simpa using b37_
        obtain rfl := Option.some.inj h38_
        exact con_pc (op := true) (I := [3]) (sp := law3_sp) 3000 (bF 7 (bT 9 (bF 7 []))) [.one (.bool r0), .one (.bool r1), .agg [.list k2 c3], .tup [iD r4, iD r5], .agg [.list k6 c7], .tup [.agg [iD r8, iD r9], iD r10], .agg [.list k11 c12], .tup [iD r13, .agg [iD r14, iD r15], iD r16], .tup [iD r17, iD r18]] [c_nn b5_, c_nn b10_, c_bn b27_, c_bn b27_, c_bn b27_, c_bn b27_, c_bn b30_, c_b b31_, c_e b33_, c_e b33_, c_e b33_, c_e b33_, c_q b35_, c_q b35_, c_q b35_, c_q b35_, c_en b42_, c_en b42_, c_en b42_, c_F, c_F, c_F, c_F] [k_c f1_, k_c f6_, k_c f11_, k_c f13_, k_c f15_, k_c f17_, k_c f19_, k_c f21_, k_c f23_] (by kernel_rfl)
      have h36_ := (if_neg b35_).symm.trans h34_
      have b43_ : (r8 == (0 : Int) && (r9 == (0 : Int) && true)) = false := by first | exact b35_ | simpa using b35_
      obtain rfl := Option.some.inj h36_
      exact con_pc (op := true) (I := [3]) (sp := law3_sp) 3000 (bF 7 (bT 5 (bF 11 []))) [.one (.bool r0), .one (.bool r1), .agg [.list k2 c3], .tup [iD r4, iD r5], .agg [.list k6 c7], .tup [.agg [iD r8, iD r9], iD r10], .agg [.list k11 c12], .tup [iD r13, .agg [iD r14, iD r15], iD r16], .tup [iD r17, iD r18]] [c_nn b5_, c_nn b10_, c_bn b27_, c_bn b27_, c_bn b27_, c_bn b27_, c_bn b30_, c_b b31_, c_e b33_, c_e b33_, c_e b33_, c_e b33_, c_q b43_, c_q b43_, c_q b43_, c_q b43_, c_F, c_F, c_F, c_F, c_F, c_F, c_F] [k_c f1_, k_c f6_, k_c f11_, k_c f13_, k_c f15_, k_c f17_, k_c f19_, k_c f21_, k_c f23_] (by kernel_rfl)
    have h34_ := (if_neg b33_).symm.trans h32_
    have b44_ : r10 ≠ r18 := by first | exact b33_ | simpa using b33_
    obtain rfl := Option.some.inj h34_
    exact con_pc (op := true) (I := [3]) (sp := law3_sp) 3000 (bF 7 (bT 1 (bF 15 []))) [.one (.bool r0), .one (.bool r1), .agg [.list k2 c3], .tup [iD r4, iD r5], .agg [.list k6 c7], .tup [.agg [iD r8, iD r9], iD r10], .agg [.list k11 c12], .tup [iD r13, .agg [iD r14, iD r15], iD r16], .tup [iD r17, iD r18]] [c_nn b5_, c_nn b10_, c_bn b27_, c_bn b27_, c_bn b27_, c_bn b27_, c_bn b30_, c_b b31_, c_en b44_, c_en b44_, c_en b44_, c_en b44_, c_F, c_F, c_F, c_F, c_F, c_F, c_F, c_F, c_F, c_F, c_F] [k_c f1_, k_c f6_, k_c f11_, k_c f13_, k_c f15_, k_c f17_, k_c f19_, k_c f21_, k_c f23_] (by kernel_rfl)
  have h32_ := (if_neg b31_).symm.trans h29_
  have b45_ : r18 = (0 : Int) := by first | exact b31_ | simpa using b31_
  obtain ⟨⟨r19, r20, r21⟩, f46_, h47_⟩ := pullD_elim h32_
  replace f46_ := m_13_ok f46_
  by_cases b48_ : r16 ≠ (0 : Int)
  · have h49_ := (if_pos b48_).symm.trans h47_
    obtain rfl := Option.some.inj h49_
    exact con_pc (op := true) (I := [3]) (sp := law3_sp) 3000 (bF 8 (bT 9 [])) [.one (.bool r0), .one (.bool r1), .agg [.list k2 c3], .tup [iD r4, iD r5], .agg [.list k6 c7], .tup [.agg [iD r8, iD r9], iD r10], .agg [.list k11 c12], .tup [iD r13, .agg [iD r14, iD r15], iD r16], .tup [iD r17, iD r18], .tup [iD r19, .agg [iD r20, iD r21]]] [c_nn b5_, c_nn b10_, c_bn b27_, c_bn b27_, c_bn b27_, c_bn b27_, c_bn b30_, c_bn b45_, c_b b48_, c_b b48_, c_b b48_, c_b b48_, c_T, c_T, c_T, c_T, c_T] [k_c f1_, k_c f6_, k_c f11_, k_c f13_, k_c f15_, k_c f17_, k_c f19_, k_c f21_, k_c f23_, k_c f46_] (by kernel_rfl)
  have h49_ := (if_neg b48_).symm.trans h47_
  have b50_ : r16 = (0 : Int) := by first | exact b48_ | simpa using b48_
  by_cases b51_ : r13 ≠ r19
  · have h52_ := (if_pos b51_).symm.trans h49_
    obtain rfl := Option.some.inj h52_
    exact con_pc (op := true) (I := [3]) (sp := law3_sp) 3000 (bF 12 (bT 5 [])) [.one (.bool r0), .one (.bool r1), .agg [.list k2 c3], .tup [iD r4, iD r5], .agg [.list k6 c7], .tup [.agg [iD r8, iD r9], iD r10], .agg [.list k11 c12], .tup [iD r13, .agg [iD r14, iD r15], iD r16], .tup [iD r17, iD r18], .tup [iD r19, .agg [iD r20, iD r21]]] [c_nn b5_, c_nn b10_, c_bn b27_, c_bn b27_, c_bn b27_, c_bn b27_, c_bn b30_, c_bn b45_, c_bn b50_, c_bn b50_, c_bn b50_, c_bn b50_, c_b b51_, c_b b51_, c_b b51_, c_b b51_, c_T] [k_c f1_, k_c f6_, k_c f11_, k_c f13_, k_c f15_, k_c f17_, k_c f19_, k_c f21_, k_c f23_, k_c f46_] (by kernel_rfl)
  have h52_ := (if_neg b51_).symm.trans h49_
  have b53_ : r13 = r19 := by first | exact b51_ | simpa using b51_
  by_cases b54_ : (!(r14 == r20 && (r15 == r21 && true))) = true
  · have h55_ := (if_pos b54_).symm.trans h52_
    obtain rfl := Option.some.inj h55_
    exact con_pc (op := true) (I := [3]) (sp := law3_sp) 3000 (bF 16 (bT 1 [])) [.one (.bool r0), .one (.bool r1), .agg [.list k2 c3], .tup [iD r4, iD r5], .agg [.list k6 c7], .tup [.agg [iD r8, iD r9], iD r10], .agg [.list k11 c12], .tup [iD r13, .agg [iD r14, iD r15], iD r16], .tup [iD r17, iD r18], .tup [iD r19, .agg [iD r20, iD r21]]] [c_nn b5_, c_nn b10_, c_bn b27_, c_bn b27_, c_bn b27_, c_bn b27_, c_bn b30_, c_bn b45_, c_bn b50_, c_bn b50_, c_bn b50_, c_bn b50_, c_bn b53_, c_bn b53_, c_bn b53_, c_bn b53_, c_q b54_] [k_c f1_, k_c f6_, k_c f11_, k_c f13_, k_c f15_, k_c f17_, k_c f19_, k_c f21_, k_c f23_, k_c f46_] (by kernel_rfl)
  have h55_ := (if_neg b54_).symm.trans h52_
  have b56_ : (!(r14 == r20 && (r15 == r21 && true))) = false := by first | exact b54_ | simpa using b54_
  obtain ⟨r22, f57_, h58_⟩ := pullD_elim h55_
  replace f57_ := m_14_ok f57_
  by_cases b59_ : r22 = false
  · have h60_ := (if_pos b59_).symm.trans h58_
    by_cases b61_ : r10 = (2 : Int)
    · have h62_ := (if_pos b61_).symm.trans h60_
      obtain rfl := Option.some.inj h62_
      exact con_pc (op := true) (I := [3]) (sp := law3_sp) 3000 (bF 17 (bT 5 [])) [.one (.bool r0), .one (.bool r1), .agg [.list k2 c3], .tup [iD r4, iD r5], .agg [.list k6 c7], .tup [.agg [iD r8, iD r9], iD r10], .agg [.list k11 c12], .tup [iD r13, .agg [iD r14, iD r15], iD r16], .tup [iD r17, iD r18], .tup [iD r19, .agg [iD r20, iD r21]], .one (.bool r22)] [c_nn b5_, c_nn b10_, c_bn b27_, c_bn b27_, c_bn b27_, c_bn b27_, c_bn b30_, c_bn b45_, c_bn b50_, c_bn b50_, c_bn b50_, c_bn b50_, c_bn b53_, c_bn b53_, c_bn b53_, c_bn b53_, c_q b56_, c_no b59_, c_e b61_, c_e b61_, c_e b61_, c_e b61_] [k_c f1_, k_c f6_, k_c f11_, k_c f13_, k_c f15_, k_c f17_, k_c f19_, k_c f21_, k_c f23_, k_c f46_, k_c f57_] (by kernel_rfl)
    have h62_ := (if_neg b61_).symm.trans h60_
    have b63_ : r10 ≠ (2 : Int) := by first | exact b61_ | simpa using b61_
    obtain rfl := Option.some.inj h62_
    exact con_pc (op := true) (I := [3]) (sp := law3_sp) 3000 (bF 17 (bT 1 (bF 4 []))) [.one (.bool r0), .one (.bool r1), .agg [.list k2 c3], .tup [iD r4, iD r5], .agg [.list k6 c7], .tup [.agg [iD r8, iD r9], iD r10], .agg [.list k11 c12], .tup [iD r13, .agg [iD r14, iD r15], iD r16], .tup [iD r17, iD r18], .tup [iD r19, .agg [iD r20, iD r21]], .one (.bool r22)] [c_nn b5_, c_nn b10_, c_bn b27_, c_bn b27_, c_bn b27_, c_bn b27_, c_bn b30_, c_bn b45_, c_bn b50_, c_bn b50_, c_bn b50_, c_bn b50_, c_bn b53_, c_bn b53_, c_bn b53_, c_bn b53_, c_q b56_, c_no b59_, c_en b63_, c_en b63_, c_en b63_, c_en b63_] [k_c f1_, k_c f6_, k_c f11_, k_c f13_, k_c f15_, k_c f17_, k_c f19_, k_c f21_, k_c f23_, k_c f46_, k_c f57_] (by kernel_rfl)
  have h60_ := (if_neg b59_).symm.trans h58_
  have b64_ : r22 = true := by first | exact b59_ | simpa using b59_
  obtain ⟨⟨r23, r24⟩, f65_, h66_⟩ := pullD_elim h60_
  replace f65_ := m_15_ok f65_
  obtain ⟨⟨r25, r26⟩, f67_, h68_⟩ := pullD_elim h66_
  replace f67_ := m_16_ok f67_
  obtain ⟨r27, f69_, h70_⟩ := pullD_elim h68_
  replace f69_ := m_17_ok f69_
  by_cases b71_ : r27 = false
  · have h72_ := (if_pos b71_).symm.trans h70_
    by_cases b73_ : r10 = (8 : Int)
    · have h74_ := (if_pos b73_).symm.trans h72_
      obtain rfl := Option.some.inj h74_
      exact con_pc (op := true) (I := [3]) (sp := law3_sp) 3000 (bF 18 (bT 5 [])) [.one (.bool r0), .one (.bool r1), .agg [.list k2 c3], .tup [iD r4, iD r5], .agg [.list k6 c7], .tup [.agg [iD r8, iD r9], iD r10], .agg [.list k11 c12], .tup [iD r13, .agg [iD r14, iD r15], iD r16], .tup [iD r17, iD r18], .tup [iD r19, .agg [iD r20, iD r21]], .one (.bool r22), .tup [iD r23, iD r24], .agg [iD r25, iD r26], .one (.bool r27)] [c_nn b5_, c_nn b10_, c_bn b27_, c_bn b27_, c_bn b27_, c_bn b27_, c_bn b30_, c_bn b45_, c_bn b50_, c_bn b50_, c_bn b50_, c_bn b50_, c_bn b53_, c_bn b53_, c_bn b53_, c_bn b53_, c_q b56_, c_nn b64_, c_no b71_, c_e b73_, c_e b73_, c_e b73_, c_e b73_] [k_c f1_, k_c f6_, k_c f11_, k_c f13_, k_c f15_, k_c f17_, k_c f19_, k_c f21_, k_c f23_, k_c f46_, k_c f57_, k_c f65_, k_c f67_, k_c f69_] (by kernel_rfl)
    have h74_ := (if_neg b73_).symm.trans h72_
    have b75_ : r10 ≠ (8 : Int) := by first | exact b73_ | simpa using b73_
    obtain rfl := Option.some.inj h74_
    exact con_pc (op := true) (I := [3]) (sp := law3_sp) 3000 (bF 18 (bT 1 (bF 4 []))) [.one (.bool r0), .one (.bool r1), .agg [.list k2 c3], .tup [iD r4, iD r5], .agg [.list k6 c7], .tup [.agg [iD r8, iD r9], iD r10], .agg [.list k11 c12], .tup [iD r13, .agg [iD r14, iD r15], iD r16], .tup [iD r17, iD r18], .tup [iD r19, .agg [iD r20, iD r21]], .one (.bool r22), .tup [iD r23, iD r24], .agg [iD r25, iD r26], .one (.bool r27)] [c_nn b5_, c_nn b10_, c_bn b27_, c_bn b27_, c_bn b27_, c_bn b27_, c_bn b30_, c_bn b45_, c_bn b50_, c_bn b50_, c_bn b50_, c_bn b50_, c_bn b53_, c_bn b53_, c_bn b53_, c_bn b53_, c_q b56_, c_nn b64_, c_no b71_, c_en b75_, c_en b75_, c_en b75_, c_en b75_] [k_c f1_, k_c f6_, k_c f11_, k_c f13_, k_c f15_, k_c f17_, k_c f19_, k_c f21_, k_c f23_, k_c f46_, k_c f57_, k_c f65_, k_c f67_, k_c f69_] (by kernel_rfl)
  have h72_ := (if_neg b71_).symm.trans h70_
  have b76_ : r27 = true := by first | exact b71_ | simpa using b71_
  by_cases b77_ : r10 = (0 : Int)
  · have h78_ := (if_pos b77_).symm.trans h72_
    obtain rfl := Option.some.inj h78_
    exact con_pc (op := true) (I := [3]) (sp := law3_sp) 3000 (bF 19 (bT 4 [])) [.one (.bool r0), .one (.bool r1), .agg [.list k2 c3], .tup [iD r4, iD r5], .agg [.list k6 c7], .tup [.agg [iD r8, iD r9], iD r10], .agg [.list k11 c12], .tup [iD r13, .agg [iD r14, iD r15], iD r16], .tup [iD r17, iD r18], .tup [iD r19, .agg [iD r20, iD r21]], .one (.bool r22), .tup [iD r23, iD r24], .agg [iD r25, iD r26], .one (.bool r27)] [c_nn b5_, c_nn b10_, c_bn b27_, c_bn b27_, c_bn b27_, c_bn b27_, c_bn b30_, c_bn b45_, c_bn b50_, c_bn b50_, c_bn b50_, c_bn b50_, c_bn b53_, c_bn b53_, c_bn b53_, c_bn b53_, c_q b56_, c_nn b64_, c_nn b76_, c_e b77_, c_e b77_, c_e b77_, c_e b77_] [k_c f1_, k_c f6_, k_c f11_, k_c f13_, k_c f15_, k_c f17_, k_c f19_, k_c f21_, k_c f23_, k_c f46_, k_c f57_, k_c f65_, k_c f67_, k_c f69_] (by kernel_rfl)
  have h78_ := (if_neg b77_).symm.trans h72_
  have b79_ : r10 ≠ (0 : Int) := by first | exact b77_ | simpa using b77_
  obtain rfl := Option.some.inj h78_
  exact con_pc (op := true) (I := [3]) (sp := law3_sp) 3000 (bF 23 []) [.one (.bool r0), .one (.bool r1), .agg [.list k2 c3], .tup [iD r4, iD r5], .agg [.list k6 c7], .tup [.agg [iD r8, iD r9], iD r10], .agg [.list k11 c12], .tup [iD r13, .agg [iD r14, iD r15], iD r16], .tup [iD r17, iD r18], .tup [iD r19, .agg [iD r20, iD r21]], .one (.bool r22), .tup [iD r23, iD r24], .agg [iD r25, iD r26], .one (.bool r27)] [c_nn b5_, c_nn b10_, c_bn b27_, c_bn b27_, c_bn b27_, c_bn b27_, c_bn b30_, c_bn b45_, c_bn b50_, c_bn b50_, c_bn b50_, c_bn b50_, c_bn b53_, c_bn b53_, c_bn b53_, c_bn b53_, c_q b56_, c_nn b64_, c_nn b76_, c_en b79_, c_en b79_, c_en b79_, c_en b79_] [k_c f1_, k_c f6_, k_c f11_, k_c f13_, k_c f15_, k_c f17_, k_c f19_, k_c f21_, k_c f23_, k_c f46_, k_c f57_, k_c f65_, k_c f67_, k_c f69_] (by kernel_rfl)
def m_3 (ds : List D) : Option D := pullD (α := Nat × (List D) × Int) (some (.tup ds)) (fun d => ((D.ln (D.at (D.at d 0) 0)), (D.lc (D.at (D.at d 0) 0)), (D.vi (D.at d 1)))) (fun (ka, ca, tm) => .tup [.agg [.list ka ca], iD tm]) fun (ka, ca, tm) => law3_M ka ca tm
theorem m_3_ok {ds : List D} {r : D} (h : m_3 ds = some r) : Con 3 ds r := by
  unfold m_3 at h
  obtain ⟨⟨ka, ca, tm⟩, e0, h0⟩ := pullD_elim h
  obtain rfl := tup_inj e0
  exact law3_M_ok ka ca tm h0
theorem m_3_eq (ka : Nat) (ca : List D) (tm : Int) : m_3 [.agg [.list ka ca], iD tm] = law3_M ka ca tm := pullD_some (ka, ca, tm) rfl rfl
end
end Go.Proofs.Ytaabapmggkkmeaa
/- Impulses: the steepest piece, the value: the law. -/
namespace Go.Proofs.Ytaabapmggkkmeaa
open Go.Ev Go.RowKit
set_option maxRecDepth 100000
section
variable {l : List (Int × Int)}
theorem steeper41 {a b c d : Int} (ha : -2000000 ≤ a ∧ a ≤ 2000000) (hb : 0 < b ∧ b ≤ 1000000) (hc : -2000000 ≤ c ∧ c ≤ 2000000) (hd : 0 < d ∧ d ≤ 1000000) : m_41 [.agg [iD a, iD b], .agg [iD c, iD d]] = some (.one (.bool (decide (max a (-a) * d > max c (-c) * b)))) := by
  have m1 := mulB (x := max a (-a)) (y := d) (A := 2000000) (B := 1000000) (by omega) (by omega) (by omega) (by omega)
  have m2 := mulB (x := max c (-c)) (y := b) (A := 2000000) (B := 1000000) (by omega) (by omega) (by omega) (by omega)
  rw [m_41_eq]
  unfold isSteeper_M
  rw [size42 (by omega) (by omega), pullI, size42 (by omega) (by omega), pullI, wrapJ (max a (-a) * d) (by omega) (by omega), wrapJ (max c (-c) * b) (by omega) (by omega)]
/-- The rise and the time of the steepest of the first pieces, as the program keeps them. -/
def stP (l : List (Int × Int)) : Nat → Nat × Int × Int
  | 0 => (0, 0, 1)
  | k + 1 => if dvP l k * (stP l k).2.2 > max (stP l k).2.1 (-(stP l k).2.1) * denP l k then (k, va l (k + 1) - va l k, denP l k) else stP l k
theorem stP_inv (h : Imp l) : ∀ k, k + 1 ≤ l.length → (0 < (stP l k).2.2 ∧ (stP l k).2.2 ≤ 1000000 ∧ -2000000 ≤ (stP l k).2.1 ∧ (stP l k).2.1 ≤ 2000000) ∧ (0 < k → (stP l k).1 = bestOf l k ∧ max (stP l k).2.1 (-(stP l k).2.1) * denP l (bestOf l k) = dvP l (bestOf l k) * (stP l k).2.2) := by
  intro k
  induction k with
  | zero => intro _; exact ⟨by simp [stP], fun h => by omega⟩
  | succ k ih =>
    intro hk
    obtain ⟨hb, hi⟩ := ih (by omega)
    have p := piece_bound h hk
    rcases Nat.eq_zero_or_pos k with rfl | h0
    · have e0 : stP l 0 = (0, 0, 1) := rfl
      have eb : bestOf l (0 + 1) = 0 := bestOf_one l
      rw [eb, stP, e0]
      dsimp only
      by_cases hc : dvP l 0 * 1 > max 0 (-0) * denP l 0
      · rw [if_pos hc]
        dsimp only
        exact ⟨by omega, fun _ => ⟨rfl, rfl⟩⟩
      · rw [if_neg hc]
        dsimp only
        refine ⟨by omega, fun _ => ⟨rfl, ?_⟩⟩
        rw [show max (0 : Int) (-0) = 0 from rfl, Int.zero_mul] at hc ⊢
        omega
    · obtain ⟨i1, i2⟩ := hi h0
      have hbk : bestOf l k + 1 < l.length := by
        obtain ⟨j, rfl⟩ : ∃ j, k = j + 1 := ⟨k - 1, by omega⟩
        have := bestOf_le l j; omega
      have pb := piece_bound h hbk
      have hx := cross_lt (a := dvP l k) (b := denP l k) (c := max (stP l k).2.1 (-(stP l k).2.1)) (d := (stP l k).2.2) (n1 := dvP l k) (d1 := denP l k) (n2 := dvP l (bestOf l k)) (d2 := denP l (bestOf l k)) p.2.2.1 hb.1 p.2.2.1 pb.2.2.1 rfl i2
      rw [stP, bestOf]
      by_cases hc : dvP l k * (stP l k).2.2 > max (stP l k).2.1 (-(stP l k).2.1) * denP l k
      · have hc2 := hc
        rw [hx] at hc2
        rw [if_pos hc, if_pos hc2]
        dsimp only
        exact ⟨by omega, fun _ => ⟨rfl, rfl⟩⟩
      · have hc2 := hc
        rw [hx] at hc2
        rw [if_neg hc, if_neg hc2]
        exact ⟨hb, fun _ => ⟨i1, i2⟩⟩
/-- The steepest piece. -/
abbrev bstQ (l : List (Int × Int)) : Int × Int := lowQ (dvP l (bestOf l (l.length - 1))) (denP l (bestOf l (l.length - 1)))
theorem steep11 (h : Imp l) : m_11 [.agg [lP l]] = some (.tup [iD (bestOf l (l.length - 1) : Nat), .agg [iD (bstQ l).1, iD (bstQ l).2], iD 0]) := by
  have h2 := h.two
  have h3 := h.le
  rw [m_11_eq]
  unfold steepestOf_M
  rw [foldQ, chkd36, impX_of h, if_neg (by decide), pullD_some (l.length, cP l, 0) (by rfl) (by rfl)]
  dsimp only
  rw [if_neg (by decide), guardP_pos ⟨by omega, by omega, Int.le_refl _, cP_len l⟩]
  have s1 : runR (steepestOf_L40_2_S l.length (cP l) l.length (cP l) 0) (.next 0 [iD ((0 : Nat) : Int), iD ((stP l 0).1 : Nat), iD (stP l 0).2.1, iD (stP l 0).2.2, .one (.tuple #[])]) = _ := runR_scan (S := steepestOf_L40_2_S l.length (cP l) l.length (cP l) 0) (fun _ => 0) (fun i => [iD (i : Int), iD ((stP l i).1 : Nat), iD (stP l i).2.1, iD (stP l i).2.2, .one (.tuple #[])]) (Nat.zero_le (l.length - 1)) (fun i _ hi => by
    show steepestOf_L40_2_S0 l.length (cP l) l.length (cP l) 0 _ = _
    have hii : i + 1 < l.length := by omega
    have p := piece_bound h hii
    have b0 := h.ok i (by omega)
    have b1 := h.ok (i + 1) hii
    obtain ⟨hb, -⟩ := stP_inv h i (by omega)
    unfold steepestOf_L40_2_S0
    rw [pullD_some ((i : Int), ((stP l i).1 : Int), (stP l i).2.1, (stP l i).2.2) (by rfl) (by rfl)]
    have e2 : IntKind.i64.wrap ((i : Int) + 1) = ((i + 1 : Nat) : Int) := natI' (by omega)
    simp only [e2, Int.toNat_natCast, show Int.toNat (1 : Int) = 1 from rfl, rest_cells]
    rw [if_pos (by omega), guardP_pos (by omega), readP (by rw [List.length_drop]; omega), (ta_drop l i).1, (ta_drop l i).2, pullD_some (ta l (i + 1), va l (i + 1)) (by rfl) (by rfl)]
    dsimp only
    rw [guardP_pos (by omega), readP (by omega), pullD_some (ta l i, va l i) (by rfl) (by rfl)]
    dsimp only
    rw [wrapJ (ta l (i + 1) - ta l i) (by omega) (by omega), wrapJ (va l (i + 1) - va l i) (by omega) (by omega), steeper41 (by omega) (by unfold denP at p; omega) (by omega) (by omega), pullB]
    have e : stP l (i + 1) = if dvP l i * (stP l i).2.2 > max (stP l i).2.1 (-(stP l i).2.1) * denP l i then (i, va l (i + 1) - va l i, denP l i) else stP l i := rfl
    by_cases hc : dvP l i * (stP l i).2.2 > max (stP l i).2.1 (-(stP l i).2.1) * denP l i
    · rw [if_pos hc] at e
      have hc' : max (va l (i + 1) - va l i) (-(va l (i + 1) - va l i)) * (stP l i).2.2 > max (stP l i).2.1 (-(stP l i).2.1) * (ta l (i + 1) - ta l i) := hc
      rw [e, if_pos (decide_eq_true hc')]
      rfl
    · rw [if_neg hc] at e
      have hc' : ¬ max (va l (i + 1) - va l i) (-(va l (i + 1) - va l i)) * (stP l i).2.2 > max (stP l i).2.1 (-(stP l i).2.1) * (ta l (i + 1) - ta l i) := hc
      rw [e, if_neg (fun hd => hc' (of_decide_eq_true hd))])
  have s2 : runR (steepestOf_L40_2_S l.length (cP l) l.length (cP l) 0) (.next 0 [iD ((l.length - 1 : Nat) : Int), iD ((stP l (l.length - 1)).1 : Nat), iD (stP l (l.length - 1)).2.1, iD (stP l (l.length - 1)).2.2, .one (.tuple #[])]) = some (.out 0 [iD ((stP l (l.length - 1)).1 : Nat), iD (stP l (l.length - 1)).2.1, iD (stP l (l.length - 1)).2.2, .one (.tuple #[])]) := runR_exit (by
    show steepestOf_L40_2_S0 l.length (cP l) l.length (cP l) 0 _ = _
    unfold steepestOf_L40_2_S0
    rw [pullD_some (((l.length - 1 : Nat) : Int), ((stP l (l.length - 1)).1 : Int), (stP l (l.length - 1)).2.1, (stP l (l.length - 1)).2.2) (by rfl) (by rfl)]
    simp only [Int.toNat_natCast, show Int.toNat (1 : Int) = 1 from rfl]
    rw [if_neg (by omega)])
  have s0 : runR (steepestOf_L40_2_S l.length (cP l) l.length (cP l) 0) (.next 0 [iD 0, iD 0, iD 0, iD 1, .one (.tuple #[])]) = _ := s1.trans s2
  obtain ⟨hb, hi⟩ := stP_inv h (l.length - 1) (by omega)
  obtain ⟨i1, i2⟩ := hi (by omega)
  have hbk : bestOf l (l.length - 1) + 1 < l.length := by
    obtain ⟨j, hj⟩ : ∃ j, l.length - 1 = j + 1 := ⟨l.length - 2, by omega⟩
    have := bestOf_le l j
    rw [hj]; omega
  have pb := piece_bound h hbk
  rw [bindL_some s0, if_pos rfl, pullD_some (((stP l (l.length - 1)).1 : Int), (stP l (l.length - 1)).2.1, (stP l (l.length - 1)).2.2) (by rfl) (by rfl)]
  dsimp only
  rw [size42 (by omega) (by omega), pullI, reduced38 hb.1 (by omega) (by omega) (by omega), lowQ_same hb.1 pb.2.2.1 i2, pullD_some ((bstQ l).1, (bstQ l).2) (by rfl) (by rfl)]
  dsimp only
  rw [i1]
/-- A fraction, or the refusal of one that is too large. -/
def limQ (q : Int × Int) : D := if (-1000000000 ≤ q.1 ∧ q.1 ≤ 1000000000) ∧ (1 ≤ q.2 ∧ q.2 ≤ 1000000000) then .tup [.agg [iD q.1, iD q.2], iD 0] else .tup [.agg [iD 0, iD 0], iD 8]
theorem limited37 {a b : Int} (h1 : -1000000000000 ≤ a) (h2 : a ≤ 1000000000000) (hb : 0 < b) : m_37 [.agg [iD a, iD b]] = some (limQ (a, b)) := by
  rw [m_37_eq]
  unfold limited_M limQ
  rw [size42 h1 h2, pullI]
  dsimp only
  by_cases hc : (-1000000000 ≤ a ∧ a ≤ 1000000000) ∧ (1 ≤ b ∧ b ≤ 1000000000)
  · rw [if_pos hc, if_neg (by split <;> omega)]
  · rw [if_neg hc, if_pos (by split <;> omega)]
theorem small17 (a b : Int) : m_17 [.agg [iD a, iD b]] = some (.one (.bool (decide ((-1000000000 ≤ a ∧ a ≤ 1000000000) ∧ (1 ≤ b ∧ b ≤ 1000000000))))) := by
  rw [m_17_eq]
  unfold isSmall_M
  rw [within_eq, pullB]
  by_cases h1 : -1000000000 ≤ a ∧ a ≤ 1000000000
  · rw [if_pos (decide_eq_true h1), within_eq, pullB]
    by_cases h2 : 1 ≤ b ∧ b ≤ 1000000000
    · rw [decide_eq_true h2, decide_eq_true ⟨h1, h2⟩]
    · rw [decide_eq_false h2, decide_eq_false fun h => h2 h.2]
  · rw [if_neg (fun hd => h1 (of_decide_eq_true hd)), decide_eq_false fun h => h1 h.1]
/-- Both values at a time are one fraction. -/
theorem both_values (h : Imp l) {tm : Int} (t1 : tm ≤ 1000000) : ∃ n d n2 d2, m_39 [.agg [lP l], iD tm] = some (.tup [iD n, iD d]) ∧ m_15 [.agg [lP l], iD tm] = some (.tup [iD n2, iD d2]) ∧ (0 < d ∧ d ≤ 1000000) ∧ (0 < d2 ∧ d2 ≤ 1000000) ∧ (-1000000000000 ≤ n ∧ n ≤ 1000000000000) ∧ (-1000000000000 ≤ n2 ∧ n2 ≤ 1000000000000) ∧ n * d2 = n2 * d := by
  have h2 := h.two
  have b := h.ok (l.length - 1) (by omega)
  by_cases c0 : tm < ta l 0
  · exact ⟨0, 1, 0, 1, value_before h c0, value15_before h c0, by omega, by omega, by omega, by omega, rfl⟩
  by_cases c1 : ta l (l.length - 1) < tm
  · exact ⟨_, 1, _, 1, value_end h (by omega) c1, value15_end h (by omega), by omega, by omega, by omega, by omega, rfl⟩
  obtain ⟨p, hp, hlo, hhi⟩ := piece_of h (tm := tm) (by omega) (by omega)
  have nb := num_bound h hp (tm := tm) (by omega) hlo hhi
  obtain ⟨n, d, hv, hd, hd2, hn1, hn2, hx⟩ := value15 h hp (tm := tm) (by omega) hlo hhi
  exact ⟨_, _, n, d, value_piece h hp (by omega) hlo hhi, hv, ⟨nb.2.2.1, nb.2.2.2⟩, ⟨hd, hd2⟩, by omega, by omega, hx.symm⟩
theorem value10_low (h : Imp l) {tm n d : Int} (t0 : 0 ≤ tm) (t1 : tm ≤ 1000000) (hm : m_39 [.agg [lP l], iD tm] = some (.tup [iD n, iD d])) (hd : 0 < d ∧ d ≤ 1000000) (hn : -1000000000000 ≤ n ∧ n ≤ 1000000000000) :
    m_10 [.agg [lP l], iD tm] = some (limQ (lowQ n d)) := by
  rw [m_10_eq]
  unfold valueAtC_M
  rw [foldQ, chkd36, impX_of h, if_neg (by decide), pullD_some (l.length, cP l, 0) (by rfl) (by rfl)]
  dsimp only
  rw [if_neg (by omega), if_neg (by omega), first00, pullI, if_neg (by decide), foldQ2, hm, pullD_some (n, d) (by rfl) (by rfl)]
  dsimp only
  have f := lowQ_facts (n := n) hd.1
  have c := lowQ_bound (n := n) hd.1 (B := 1000000000000) hn.1 hn.2
  rw [reduced38 hd.1 (by omega) hn.1 hn.2, pullD_some ((lowQ n d).1, (lowQ n d).2) (by rfl) (by rfl)]
  dsimp only
  rw [limited37 c.1 c.2 f.2.2.1]
  unfold limQ
  by_cases hc : (-1000000000 ≤ (lowQ n d).1 ∧ (lowQ n d).1 ≤ 1000000000) ∧ (1 ≤ (lowQ n d).2 ∧ (lowQ n d).2 ≤ 1000000000)
  · rw [if_pos hc, pullD_some ((lowQ n d).1, (lowQ n d).2, 0) (by rfl) (by rfl)]
  · rw [if_neg hc, pullD_some (0, 0, 8) (by rfl) (by rfl)]
theorem value10_out (h : Imp l) {tm : Int} (t : ¬ (0 ≤ tm ∧ tm ≤ 1000000)) : m_10 [.agg [lP l], iD tm] = some (.tup [.agg [iD 0, iD 0], iD 2]) := by
  rw [m_10_eq]
  unfold valueAtC_M
  rw [foldQ, chkd36, impX_of h, if_neg (by decide), pullD_some (l.length, cP l, 0) (by rfl) (by rfl)]
  dsimp only
  by_cases c : tm < 0
  · rw [if_pos c, first02, pullI, if_pos (by decide)]
  · rw [if_neg c, if_pos (by omega), first02, pullI, if_pos (by decide)]
theorem value10_err (h : (impX l).2 ≠ 0) (tm : Int) : m_10 [.agg [lP l], iD tm] = some (.tup [.agg [iD 0, iD 0], iD (impX l).2]) := by
  rw [m_10_eq]
  unfold valueAtC_M
  rw [foldQ, chkd36, if_pos h, pullD_some (0, [], (impX l).2) (by rfl) (by rfl)]
  dsimp only
  by_cases c : tm < 0
  · rw [if_pos c, first2, pullI, if_pos h, if_pos h]
  · rw [if_neg c]
    by_cases c2 : tm > 1000000
    · rw [if_pos c2, first2, pullI, if_pos h, if_pos h]
    · rw [if_neg c2, first2, pullI, if_pos h, if_pos h]
theorem steep11_err (h : (impX l).2 ≠ 0) : m_11 [.agg [lP l]] = some (.tup [iD 0, .agg [iD 0, iD 0], iD (impX l).2]) := by
  rw [m_11_eq]
  unfold steepestOf_M
  rw [foldQ, chkd36, if_pos h, pullD_some (0, [], (impX l).2) (by rfl) (by rfl)]
  dsimp only
  rw [if_pos h]
theorem same_q (a b : Int) : (a == a && (b == b && true)) = true := by simp
theorem law3_eq (l : List (Int × Int)) (tm : Int) : m_3 [.agg [lP l], iD tm] = some (.one (.bool true)) := by
  rw [m_3_eq]
  unfold law3_M
  rw [m_6_eq, pullB, if_neg (by decide), foldQ, few7, pullB]
  by_cases hf : l.length ≤ 14
  rotate_left
  · rw [if_pos (by simpa using hf)]
  rw [if_neg (by simpa using hf), copy9 l (by omega), pullD_some (l.length, cP l) (by rfl) (by rfl)]
  dsimp only
  rw [foldQ, chk8, pullT]
  dsimp only
  rw [pullD_some (l.length, cP l) (by rfl) (by rfl)]
  dsimp only
  rw [foldQ2]
  by_cases he : (impX l).2 ≠ 0
  · rw [value10_err he, pullD_some (0, 0, (impX l).2) (by rfl) (by rfl)]
    dsimp only
    rw [pullD_some (l.length, cP l) (by rfl) (by rfl)]
    dsimp only
    rw [foldQ, steep11_err he, pullD_some (0, 0, 0, (impX l).2) (by rfl) (by rfl)]
    dsimp only
    rw [chk12, pullT]
    dsimp only
    rw [if_neg (fun h => h rfl), if_neg (fun h => h rfl), if_pos he, if_pos rfl, if_pos (by decide), if_pos rfl, if_pos rfl]
    rfl
  have h := impX_zero (l := l) (by omega)
  have hz := impX_of h
  by_cases ht : 0 ≤ tm ∧ tm ≤ 1000000
  · obtain ⟨n, d, n2, d2, hm, hv, hd, hd2, hn, hn2, hx⟩ := both_values h ht.2
    have hq : lowQ n d = lowQ n2 d2 := lowQ_same hd.1 hd2.1 hx
    rw [value10_low h ht.1 ht.2 hm hd hn, hq]
    unfold limQ
    by_cases hs : (-1000000000 ≤ (lowQ n2 d2).1 ∧ (lowQ n2 d2).1 ≤ 1000000000) ∧ (1 ≤ (lowQ n2 d2).2 ∧ (lowQ n2 d2).2 ≤ 1000000000)
    · rw [if_pos hs, pullD_some ((lowQ n2 d2).1, (lowQ n2 d2).2, 0) (by rfl) (by rfl)]
      dsimp only
      rw [pullD_some (l.length, cP l) (by rfl) (by rfl)]
      dsimp only
      rw [foldQ, steep11 h, pullD_some ((bestOf l (l.length - 1) : Int), (bstQ l).1, (bstQ l).2, 0) (by rfl) (by rfl)]
      dsimp only
      rw [chk12, hz, pullT]
      dsimp only
      rw [if_neg (by decide), if_neg (by decide), if_neg (by decide), foldQ, steep13 h, pullD_some ((bestOf l (l.length - 1) : Int), (bstQ l).1, (bstQ l).2) (by rfl) (by rfl)]
      dsimp only
      rw [if_neg (by decide), if_neg (fun h => h rfl), if_neg (by simp), within_eq, pullB, if_neg (by simpa using ht), foldQ2, hv, pullT]
      dsimp only
      rw [lowest16 hd2.1 (by omega) hn2.1 hn2.2, pullD_some ((lowQ n2 d2).1, (lowQ n2 d2).2) (by rfl) (by rfl)]
      dsimp only
      rw [small17, pullB, if_neg (by rw [decide_eq_true hs]; decide), if_pos rfl, same_q]
    · rw [if_neg hs, pullD_some (0, 0, 8) (by rfl) (by rfl)]
      dsimp only
      rw [pullD_some (l.length, cP l) (by rfl) (by rfl)]
      dsimp only
      rw [foldQ, steep11 h, pullD_some ((bestOf l (l.length - 1) : Int), (bstQ l).1, (bstQ l).2, 0) (by rfl) (by rfl)]
      dsimp only
      rw [chk12, hz, pullT]
      dsimp only
      rw [if_neg (by decide), if_neg (by decide), if_neg (by decide), foldQ, steep13 h, pullD_some ((bestOf l (l.length - 1) : Int), (bstQ l).1, (bstQ l).2) (by rfl) (by rfl)]
      dsimp only
      rw [if_neg (by decide), if_neg (fun h => h rfl), if_neg (by simp), within_eq, pullB, if_neg (by simpa using ht), foldQ2, hv, pullT]
      dsimp only
      rw [lowest16 hd2.1 (by omega) hn2.1 hn2.2, pullD_some ((lowQ n2 d2).1, (lowQ n2 d2).2) (by rfl) (by rfl)]
      dsimp only
      rw [small17, pullB, if_pos (by rw [decide_eq_false hs]), if_pos rfl]
      rfl
  · rw [value10_out h ht, pullD_some (0, 0, 2) (by rfl) (by rfl)]
    dsimp only
    rw [pullD_some (l.length, cP l) (by rfl) (by rfl)]
    dsimp only
    rw [foldQ, steep11 h, pullD_some ((bestOf l (l.length - 1) : Int), (bstQ l).1, (bstQ l).2, 0) (by rfl) (by rfl)]
    dsimp only
    rw [chk12, hz, pullT]
    dsimp only
    rw [if_neg (by decide), if_neg (by decide), if_neg (by decide), foldQ, steep13 h, pullD_some ((bestOf l (l.length - 1) : Int), (bstQ l).1, (bstQ l).2) (by rfl) (by rfl)]
    dsimp only
    rw [if_neg (by decide), if_neg (fun h => h rfl), if_neg (by simp), within_eq, pullB, if_pos (by simpa using ht), if_pos rfl]
    rfl
theorem law3_con (l : List (Int × Int)) (tm : Int) : Con 3 [.agg [lP l], .one (.int .i64 tm)] (.one (.bool true)) := m_3_ok (law3_eq l tm)
end
end Go.Proofs.Ytaabapmggkkmeaa
/- SurgeImpulses: what the runs give, for every argument. -/
namespace Go.Proofs.Ytaabapmggkkmeaa.surgeImpulses
open Go.ChangeShapes Go.WideShapes Go.ChangeAt Go.RowKit Go.Joins Go.Ev
set_option maxRecDepth 100000 in
/-- WHAT THE RUNS GIVE, FOR EVERY ARGUMENT AND EVERY WORLD THAT HOLDS THE TABLES. -/
theorem contract (H : Type) (enc : TypeId × Value → H) (W : World) (base : Nat) (args : Array Value) (ds gs : List (DataW H)) (before : List MemPlace)
    (hval : ∀ (j : Nat) t v, Try.f3.params[j]? = some t → args[j]? = some v → Value.okWide Try.prog W .any base t v)
    (hW : DataW.Whole enc Try.prog Try.f3.params.toList Rows.surgeImpulsesSpec.vars false W args.toList ds gs before) (hL : laidMetH Try.prog Rows.surgeImpulsesRow.laid W) :
    Calls Try.prog 3 args W fun e W' => ∃ v, e = .returned v ∧ Rows.surgeImpulsesSpec.post enc Try.prog Try.f3 false true false false W args v W' := by
  have hW' := hW
  have hlt := hW.lt
  obtain ⟨p, q, hA0, hV, rfl, hfz, hnd⟩ := hW
  have hA : DataW.TrodAll enc Try.prog W 0 (fun _ => true) true Try.f3.params.toList args.toList ds p := hA0
  rw [Try.params3] at hA hval
  obtain ⟨v0, vs0, d0, ds0, p0, q0, hargs, rfl, rfl, h0, r0⟩ := trodAll_cons hA
  obtain ⟨v1, vs1, d1, ds1, p1, q1, rfl, rfl, rfl, h1, r1⟩ := trodAll_cons r0
  obtain ⟨rfl, rfl, rfl⟩ := trodAll_nil r1
  obtain rfl : args = #[v0, v1] := by cases args; simp_all
  obtain ⟨rfl, rfl⟩ := trodVars_none hV
  obtain ⟨e0, o0, k0⟩ := open_agg (ls := [.sl [.int .i64, .int .i64]]) 8 (by kernel_rfl) (by kernel_rfl) (by kernel_rfl) (hval 0 24 v0 rfl rfl) h0
  obtain ⟨l, rfl⟩ := imp_of o0
  obtain ⟨e1, o1, k1⟩ := open_cell (c := .int .i64) 8 (by kernel_rfl) (by kernel_rfl) (by kernel_rfl) (hval 1 3 v1 rfl rfl) h1
  obtain ⟨tm, rfl, -⟩ := int_of o1
  have hr : RpL (fun _ => True) W [.agg [lP l], .one (.int .i64 tm)] [v0, v1] := by
    simp only [RpL]
    exact ⟨v0, _, rfl, k0, ⟨v1, _, rfl, k1, rfl⟩⟩
  refine (law3_con l tm W (fun _ => True) _ tabs0 hr).mono fun e W' ⟨v, he, hv, hg⟩ => ?_
  simp only [Rp] at hv
  subst he
  subst hv
  have hlaid : laidOutB Try.prog = true := by kernel_rfl
  exact ⟨_, rfl, post_below (pa := (p0 ++ (p1 ++ []))) (pv := []) hW' (fun _ _ _ => trodAll_cons_mk (shut_bool Try.underlying4 _) trodAll_mk0) (fun sp hsp => by
    rw [Try.params3]
    exact trodAll_cons_mk (stays hlaid (by kernel_rfl) (of_decide_eq_true (by kernel_rfl)) h0 hg (fun x hx => hlt x (by simp only [List.mem_append]; left; left; exact hx)) (fun x hx => hsp x (by simp only [List.mem_append]; left; left; exact hx))) (trodAll_cons_mk (stays hlaid (by kernel_rfl) (of_decide_eq_true (by kernel_rfl)) h1 hg (fun x hx => hlt x (by simp only [List.mem_append]; left; right; left; exact hx)) (fun x hx => hsp x (by simp only [List.mem_append]; left; right; left; exact hx))) (trodAll_mk0))) (fun _ _ => rfl) rfl
    hg (ok_one (by kernel_rfl) rfl (okWide_bool_mk Try.underlying4 _))⟩
end Go.Proofs.Ytaabapmggkkmeaa.surgeImpulses
/- SurgeImpulses: closed facts of the witness. -/
namespace Go.Proofs.Ytaabapmggkkmeaa.surgeImpulses
open Go.ChangeShapes Go.WideShapes Go.ChangeAt Go.RowKit Go.Joins
/-- THE WITNESS's ARGUMENTS. -/
noncomputable def args0 : Array Value := #[.agg #[.slice none 0 0], .int .i64 0]
/-- A WORLD FOR THE WITNESS: the heap that the program's own initialisers leave. -/
noncomputable def start (os : Os) : World := World.doorLaid Try.prog 400 os
theorem laid_met (os : Os) : laidMet Try.prog Rows.surgeImpulsesRow.laid ((start os).forCall (fun _ _ => 0) ⟨#[], args0, []⟩).memory := ⟨[], rfl, List.nodup_nil, fun _ _ h => by cases h⟩
theorem reads (os : Os) {H : Type} (enc : TypeId × Value → H) : ∃ places, DataW.whole enc Try.prog ((start os).forCall (fun _ _ => 0) ⟨#[], args0, []⟩).memory Try.f3.params.toList Rows.surgeImpulsesSpec.vars false args0.toList 8 = some ([.agg [.nil], .lit (.int .i64 0)], [], places) :=
  ⟨[], by kernel_rfl⟩
theorem vB (os : Os) : ((start os).forCall (fun _ _ => 0) ⟨#[], args0, []⟩).variablesB Try.prog = true := by kernel_rfl
theorem rB (os : Os) : (((start os).forCall (fun _ _ => 0) ⟨#[], args0, []⟩).heap.toList.drop Try.prog.globals.size).take ((begin Try.prog (fun _ _ => 0) default).world.heap.size - Try.prog.globals.size) = (begin Try.prog (fun _ _ => 0) default).world.heap.toList.drop Try.prog.globals.size := by kernel_rfl
theorem oB (os : Os) : Input.okWideB Try.prog ((start os).forCall (fun _ _ => 0) ⟨#[], args0, []⟩) 3 ⟨#[], args0, []⟩ = true := by kernel_rfl
theorem hB (os : Os) : (start os).os = os := by kernel_rfl
end Go.Proofs.Ytaabapmggkkmeaa.surgeImpulses
/- For any impulse and time, valid or not, the law SurgeImpulses of the program answers true, and its arguments read as they did. CONDITIONS: none. -/
namespace Go.Proofs.Ytaabapmggkkmeaa.surgeImpulses
open Go.ChangeShapes Go.WideShapes Go.ChangeAt Go.RowKit Go.Joins
set_option maxRecDepth 100000 in
theorem lifted (os : Os) (started : os.Started) (H : Type) (enc : TypeId × Value → H) (F : Stop.Interp) :
    ReturnsInHanded {} Try.checked os 3 .any ((OpenSpec.ofChange Rows.surgeImpulsesSpec).preRow enc Try.prog Try.f3 Rows.surgeImpulsesRow.domain false Rows.surgeImpulsesRow.laid) (((OpenSpec.ofChange Rows.surgeImpulsesSpec).at F).post enc Try.prog Try.f3 false true false false) := by
  obtain ⟨places, hx⟩ := reads os enc
  refine returnsInHanded_of_row (C := Try.checked) (s := OpenSpec.ofChange Rows.surgeImpulsesSpec) own started (by kernel_rfl) Try.func3
    (witness_row_at (enc := enc) (C := Try.checked) false (start os) args0 (hB os) (vB os) (rB os) (oB os)
      (OpenSpec.preRow_of_cond 8 hx (by kernel_rfl) (fun k hk => by cases hk) (by kernel_rfl) (laid_met os))) ?_
  intro W base args ds gs before hval hW _ _ _ hL _ _
  exact contract H enc W base args ds gs before hval hW hL
theorem said : Rows.SurgeImpulsesSaid :=
  OpenClaim.holds_of_cond 3 Try.f3 rfl rfl rfl rfl rfl rfl rfl ⟨rfl, rfl, rfl, rfl, rfl⟩ rfl rfl rfl rfl rfl (by kernel_rfl) Try.func3 (by kernel_rfl)
    (of_decide_eq_true (by kernel_rfl)) (by unfold Func.isWrapper; first | (rw [if_pos (by decide +kernel)]; kernel_rfl) | (rw [if_neg (by decide +kernel)]; exact ⟨rfl, rfl⟩))
    (fun os started H enc _ F => by rw [OpenClaim.pre_eq_preRow]; exact lifted os started H enc F)
end Go.Proofs.Ytaabapmggkkmeaa.surgeImpulses
