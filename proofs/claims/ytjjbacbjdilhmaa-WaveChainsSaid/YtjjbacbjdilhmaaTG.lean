import Derived.Test.YtjjbacbjdilhmaaTE
import Derived.Test.YtjjbacbjdilhmaaTF
set_option linter.unusedVariables false
set_option linter.unusedSimpArgs false
set_option linter.unusedSectionVars false
set_option linter.unnecessarySimpa false
namespace Go.Proofs.Ytjjbacbjdilhmaa
open Go.Ev Go.RowKit
set_option maxRecDepth 100000
set_option maxHeartbeats 8000000
set_option linter.all false
noncomputable section
abbrev shNK5_0 (a0 : Int) (a1 : Int) (a2 : Int) (a3 : Int) : D := .agg [.one (.int .i64 a0), .one (.int .i64 a1), .one (.int .i64 a2), .one (.int .i64 a3)]
def shNK5_0P (d : D) : Int × Int × Int × Int := (D.vi (D.at d 0), D.vi (D.at d 1), D.vi (D.at d 2), D.vi (D.at d 3))
def isLowest_sp : List LSpec := []
def isLowest_M (n d : Int) : Option D := (if d > (0 : Int) then pullD (α := Int) (m_99 [iD n, iD d]) (fun d => ((D.vi d))) (fun r0 => iD r0) fun r0 => (some (.one (.bool (r0 == (1 : Int))))) else some (.one (.bool false)))
theorem isLowest_M_ok (n d : Int) {r : D} (h : isLowest_M n d = some r) : Con 88 [.agg [iD n, iD d]] r := by
  unfold isLowest_M at h
  by_cases b1_ : d > (0 : Int)
  · have h2_ := (if_pos b1_).symm.trans h
    obtain ⟨r0, f3_, h4_⟩ := pullD_elim h2_
    replace f3_ := m_99_ok f3_
    obtain rfl := Option.some.inj h4_
    exact con_pc (op := true) (I := [88]) (sp := isLowest_sp) 3000 (bT 7 []) [iD r0] [c_d b1_, c_d b1_, c_d b1_, c_d b1_, c_d b1_, c_d b1_, c_d b1_] [k_c f3_] (by kernel_rfl)
  have h2_ := (if_neg b1_).symm.trans h
  obtain rfl := Option.some.inj h2_
  exact con_pc (op := true) (I := [88]) (sp := isLowest_sp) 3000 (bF 7 []) [] [c_n b1_, c_n b1_, c_n b1_, c_n b1_, c_n b1_, c_n b1_, c_n b1_] [] (by kernel_rfl)
def m_88 (ds : List D) : Option D := pullD (α := Int × Int) (some (.tup ds)) (fun d => ((D.vi (D.at (D.at d 0) 0)), (D.vi (D.at (D.at d 0) 1)))) (fun (n, d) => .tup [.agg [iD n, iD d]]) fun (n, d) => isLowest_M n d
theorem m_88_ok {ds : List D} {r : D} (h : m_88 ds = some r) : Con 88 ds r := by
  unfold m_88 at h
  obtain ⟨⟨n, d⟩, e0, h0⟩ := pullD_elim h
  obtain rfl := tup_inj e0
  exact isLowest_M_ok n d h0
theorem m_88_eq (n d : Int) : m_88 [.agg [iD n, iD d]] = isLowest_M n d := pullD_some (n, d) rfl rfl
def isReduced_sp : List LSpec := []
def isReduced_M (n d : Int) : Option D := (if d > (0 : Int) then pullD (α := Int) (m_98 [iD n, iD d]) (fun d => ((D.vi d))) (fun r0 => iD r0) fun r0 => (some (.one (.bool (r0 == (1 : Int))))) else some (.one (.bool false)))
theorem isReduced_M_ok (n d : Int) {r : D} (h : isReduced_M n d = some r) : Con 90 [.agg [iD n, iD d]] r := by
  unfold isReduced_M at h
  by_cases b1_ : d > (0 : Int)
  · have h2_ := (if_pos b1_).symm.trans h
    obtain ⟨r0, f3_, h4_⟩ := pullD_elim h2_
    replace f3_ := m_98_ok f3_
    obtain rfl := Option.some.inj h4_
    exact con_pc (op := true) (I := [90]) (sp := isReduced_sp) 3000 (bT 7 []) [iD r0] [c_d b1_, c_d b1_, c_d b1_, c_d b1_, c_d b1_, c_d b1_, c_d b1_] [k_c f3_] (by kernel_rfl)
  have h2_ := (if_neg b1_).symm.trans h
  obtain rfl := Option.some.inj h2_
  exact con_pc (op := true) (I := [90]) (sp := isReduced_sp) 3000 (bF 7 []) [] [c_n b1_, c_n b1_, c_n b1_, c_n b1_, c_n b1_, c_n b1_, c_n b1_] [] (by kernel_rfl)
def m_90 (ds : List D) : Option D := pullD (α := Int × Int) (some (.tup ds)) (fun d => ((D.vi (D.at (D.at d 0) 0)), (D.vi (D.at (D.at d 0) 1)))) (fun (n, d) => .tup [.agg [iD n, iD d]]) fun (n, d) => isReduced_M n d
theorem m_90_ok {ds : List D} {r : D} (h : m_90 ds = some r) : Con 90 ds r := by
  unfold m_90 at h
  obtain ⟨⟨n, d⟩, e0, h0⟩ := pullD_elim h
  obtain rfl := tup_inj e0
  exact isReduced_M_ok n d h0
theorem m_90_eq (n d : Int) : m_90 [.agg [iD n, iD d]] = isReduced_M n d := pullD_some (n, d) rfl rfl
def isLess_sp : List LSpec := []
def isLess_M (n d m e : Int) : Option D := some (.one (.bool (decide (IntKind.i64.wrap (n * e) < IntKind.i64.wrap (m * d)))))
theorem isLess_M_ok (n d m e : Int) {r : D} (h : isLess_M n d m e = some r) : Con 91 [.agg [iD n, iD d], .agg [iD m, iD e]] r := by
  unfold isLess_M at h
  obtain rfl := Option.some.inj h
  exact con_pc (op := true) (I := [91]) (sp := isLess_sp) 3000 [] [] [] [] (by kernel_rfl)
def m_91 (ds : List D) : Option D := pullD (α := Int × Int × Int × Int) (some (.tup ds)) (fun d => ((D.vi (D.at (D.at d 0) 0)), (D.vi (D.at (D.at d 0) 1)), (D.vi (D.at (D.at d 1) 0)), (D.vi (D.at (D.at d 1) 1)))) (fun (n, d, m, e) => .tup [.agg [iD n, iD d], .agg [iD m, iD e]]) fun (n, d, m, e) => isLess_M n d m e
theorem m_91_ok {ds : List D} {r : D} (h : m_91 ds = some r) : Con 91 ds r := by
  unfold m_91 at h
  obtain ⟨⟨n, d, m, e⟩, e0, h0⟩ := pullD_elim h
  obtain rfl := tup_inj e0
  exact isLess_M_ok n d m e h0
theorem m_91_eq (n d m e : Int) : m_91 [.agg [iD n, iD d], .agg [iD m, iD e]] = isLess_M n d m e := pullD_some (n, d, m, e) rfl rfl
def cmpI_sp : List LSpec := []
def cmpI_M (n d m e : Int) : Option D := (if IntKind.i64.wrap (n * e) < IntKind.i64.wrap (m * d) then some (iD (-1 : Int)) else (if IntKind.i64.wrap (n * e) > IntKind.i64.wrap (m * d) then some (iD (1 : Int)) else some (iD (0 : Int))))
theorem cmpI_M_ok (n d m e : Int) {r : D} (h : cmpI_M n d m e = some r) : Con 89 [.agg [iD n, iD d], .agg [iD m, iD e]] r := by
  unfold cmpI_M at h
  by_cases b1_ : IntKind.i64.wrap (n * e) < IntKind.i64.wrap (m * d)
  · have h2_ := (if_pos b1_).symm.trans h
    obtain rfl := Option.some.inj h2_
    exact con_pc (op := true) (I := [89]) (sp := cmpI_sp) 3000 (bT 1 []) [] [c_d b1_] [] (by kernel_rfl)
  have h2_ := (if_neg b1_).symm.trans h
  by_cases b3_ : IntKind.i64.wrap (n * e) > IntKind.i64.wrap (m * d)
  · have h4_ := (if_pos b3_).symm.trans h2_
    obtain rfl := Option.some.inj h4_
    exact con_pc (op := true) (I := [89]) (sp := cmpI_sp) 3000 (bF 1 (bT 1 [])) [] [c_n b1_, c_d b3_] [] (by kernel_rfl)
  have h4_ := (if_neg b3_).symm.trans h2_
  obtain rfl := Option.some.inj h4_
  exact con_pc (op := true) (I := [89]) (sp := cmpI_sp) 3000 (bF 2 []) [] [c_n b1_, c_n b3_] [] (by kernel_rfl)
def m_89 (ds : List D) : Option D := pullD (α := Int × Int × Int × Int) (some (.tup ds)) (fun d => ((D.vi (D.at (D.at d 0) 0)), (D.vi (D.at (D.at d 0) 1)), (D.vi (D.at (D.at d 1) 0)), (D.vi (D.at (D.at d 1) 1)))) (fun (n, d, m, e) => .tup [.agg [iD n, iD d], .agg [iD m, iD e]]) fun (n, d, m, e) => cmpI_M n d m e
theorem m_89_ok {ds : List D} {r : D} (h : m_89 ds = some r) : Con 89 ds r := by
  unfold m_89 at h
  obtain ⟨⟨n, d, m, e⟩, e0, h0⟩ := pullD_elim h
  obtain rfl := tup_inj e0
  exact cmpI_M_ok n d m e h0
theorem m_89_eq (n d m e : Int) : m_89 [.agg [iD n, iD d], .agg [iD m, iD e]] = cmpI_M n d m e := pullD_some (n, d, m, e) rfl rfl
def product_sp : List LSpec := []
def product_M (n d m e : Int) : Option D := pullD (α := Int × Int) (m_72 [iD (IntKind.i64.wrap (n * m)), iD (IntKind.i64.wrap (d * e))]) (fun d => ((D.vi (D.at d 0)), (D.vi (D.at d 1)))) (fun (r0, r1) => .agg [iD r0, iD r1]) fun (r0, r1) => (some (.agg [iD r0, iD r1]))
theorem product_M_ok (n d m e : Int) {r : D} (h : product_M n d m e = some r) : Con 47 [.agg [iD n, iD d], .agg [iD m, iD e]] r := by
  unfold product_M at h
  obtain ⟨⟨r0, r1⟩, f1_, h2_⟩ := pullD_elim h
  replace f1_ := m_72_ok f1_
  obtain rfl := Option.some.inj h2_
  exact con_pc (op := true) (I := [47]) (sp := product_sp) 3000 [] [.agg [iD r0, iD r1]] [] [k_c f1_] (by kernel_rfl)
def m_47 (ds : List D) : Option D := pullD (α := Int × Int × Int × Int) (some (.tup ds)) (fun d => ((D.vi (D.at (D.at d 0) 0)), (D.vi (D.at (D.at d 0) 1)), (D.vi (D.at (D.at d 1) 0)), (D.vi (D.at (D.at d 1) 1)))) (fun (n, d, m, e) => .tup [.agg [iD n, iD d], .agg [iD m, iD e]]) fun (n, d, m, e) => product_M n d m e
theorem m_47_ok {ds : List D} {r : D} (h : m_47 ds = some r) : Con 47 ds r := by
  unfold m_47 at h
  obtain ⟨⟨n, d, m, e⟩, e0, h0⟩ := pullD_elim h
  obtain rfl := tup_inj e0
  exact product_M_ok n d m e h0
theorem m_47_eq (n d m e : Int) : m_47 [.agg [iD n, iD d], .agg [iD m, iD e]] = product_M n d m e := pullD_some (n, d, m, e) rfl rfl
def chkError_sp : List LSpec := []
def chkError_M (n : Int) : Option D := (if n < (0 : Int) then some (iD (2 : Int)) else (if n > (100 : Int) then some (iD (2 : Int)) else some (iD (0 : Int))))
theorem chkError_M_ok (n : Int) {r : D} (h : chkError_M n = some r) : Con 51 [iD n] r := by
  unfold chkError_M at h
  by_cases b1_ : n < (0 : Int)
  · have h2_ := (if_pos b1_).symm.trans h
    obtain rfl := Option.some.inj h2_
    exact con_pc (op := true) (I := [51, 63, 97]) (sp := chkError_sp) 3000 (bT 6 []) [] [c_T, c_d b1_, c_d b1_, c_d b1_, c_d b1_, c_T] [] (by kernel_rfl)
  have h2_ := (if_neg b1_).symm.trans h
  by_cases b3_ : n > (100 : Int)
  · have h4_ := (if_pos b3_).symm.trans h2_
    obtain rfl := Option.some.inj h4_
    exact con_pc (op := true) (I := [51, 63, 97]) (sp := chkError_sp) 3000 (bT 1 (bF 4 (bT 1 []))) [] [c_T, c_n b1_, c_n b1_, c_n b1_, c_n b1_, c_d b3_] [] (by kernel_rfl)
  have h4_ := (if_neg b3_).symm.trans h2_
  obtain rfl := Option.some.inj h4_
  exact con_pc (op := true) (I := [51, 63, 97]) (sp := chkError_sp) 3000 (bT 1 (bF 6 [])) [] [c_T, c_n b1_, c_n b1_, c_n b1_, c_n b1_, c_n b3_, c_F] [] (by kernel_rfl)
def m_51 (ds : List D) : Option D := pullD (α := Int) (some (.tup ds)) (fun d => ((D.vi (D.at d 0)))) (fun n => .tup [iD n]) fun n => chkError_M n
theorem m_51_ok {ds : List D} {r : D} (h : m_51 ds = some r) : Con 51 ds r := by
  unfold m_51 at h
  obtain ⟨n, e0, h0⟩ := pullD_elim h
  obtain rfl := tup_inj e0
  exact chkError_M_ok n h0
theorem m_51_eq (n : Int) : m_51 [iD n] = chkError_M n := pullD_some n rfl rfl
def chkFactor_sp : List LSpec := []
def chkFactor_M (p q u v : Int) : Option D := pullD (α := Bool) (m_90 [.agg [iD p, iD q]]) (fun d => ((D.vb d))) (fun r0 => .one (.bool r0)) fun r0 => ((if r0 = false then some (iD (3 : Int)) else pullD (α := Bool) (m_90 [.agg [iD u, iD v]]) (fun d => ((D.vb d))) (fun r1 => .one (.bool r1)) fun r1 => ((if r1 = false then some (iD (3 : Int)) else (if p < (1 : Int) then some (iD (2 : Int)) else (if p > (1000 : Int) then some (iD (2 : Int)) else (if q < (1 : Int) then some (iD (2 : Int)) else (if q > (1000 : Int) then some (iD (2 : Int)) else (if u < (1 : Int) then some (iD (2 : Int)) else (if u > (1000 : Int) then some (iD (2 : Int)) else (if v < (1 : Int) then some (iD (2 : Int)) else (if v > (1000 : Int) then some (iD (2 : Int)) else pullD (α := Bool) (m_91 [.agg [iD u, iD v], .agg [iD p, iD q]]) (fun d => ((D.vb d))) (fun r2 => .one (.bool r2)) fun r2 => ((if (r2) = true then some (iD (9 : Int)) else some (iD (0 : Int))))))))))))))))
theorem chkFactor_M_ok (p q u v : Int) {r : D} (h : chkFactor_M p q u v = some r) : Con 52 [(shNK5_0 p q u v)] r := by
  unfold chkFactor_M at h
  obtain ⟨r0, f1_, h2_⟩ := pullD_elim h
  replace f1_ := m_90_ok f1_
  by_cases b3_ : r0 = false
  · have h4_ := (if_pos b3_).symm.trans h2_
    obtain rfl := Option.some.inj h4_
    exact con_pc (op := true) (I := [52, 63, 97]) (sp := chkFactor_sp) 3000 (bT 2 []) [.one (.bool r0)] [c_T, c_no b3_] [k_c f1_] (by kernel_rfl)
  have h4_ := (if_neg b3_).symm.trans h2_
  have b5_ : r0 = true := by first | exact b3_ | simpa using b3_
  obtain ⟨r1, f6_, h7_⟩ := pullD_elim h4_
  replace f6_ := m_90_ok f6_
  by_cases b8_ : r1 = false
  · have h9_ := (if_pos b8_).symm.trans h7_
    obtain rfl := Option.some.inj h9_
    exact con_pc (op := true) (I := [52, 63, 97]) (sp := chkFactor_sp) 3000 (bT 1 (bF 1 (bT 2 []))) [.one (.bool r0), .one (.bool r1)] [c_T, c_nn b5_, c_T, c_no b8_] [k_c f1_, k_c f6_] (by kernel_rfl)
  have h9_ := (if_neg b8_).symm.trans h7_
  have b10_ : r1 = true := by first | exact b8_ | simpa using b8_
  by_cases b11_ : p < (1 : Int)
  · have h12_ := (if_pos b11_).symm.trans h9_
    obtain rfl := Option.some.inj h12_
    exact con_pc (op := true) (I := [52, 63, 97]) (sp := chkFactor_sp) 3000 (bT 1 (bF 1 (bT 1 (bF 2 (bT 8 []))))) [.one (.bool r0), .one (.bool r1)] [c_T, c_nn b5_, c_T, c_nn b10_, c_F, c_T, c_T, c_d b11_, c_d b11_, c_d b11_, c_d b11_, c_T, c_T] [k_c f1_, k_c f6_] (by kernel_rfl)
  have h12_ := (if_neg b11_).symm.trans h9_
  by_cases b13_ : p > (1000 : Int)
  · have h14_ := (if_pos b13_).symm.trans h12_
    obtain rfl := Option.some.inj h14_
    exact con_pc (op := true) (I := [52, 63, 97]) (sp := chkFactor_sp) 3000 (bT 1 (bF 1 (bT 1 (bF 2 (bT 2 (bF 4 (bT 2 []))))))) [.one (.bool r0), .one (.bool r1)] [c_T, c_nn b5_, c_T, c_nn b10_, c_F, c_T, c_T, c_n b11_, c_n b11_, c_n b11_, c_n b11_, c_d b13_, c_T] [k_c f1_, k_c f6_] (by kernel_rfl)
  have h14_ := (if_neg b13_).symm.trans h12_
  by_cases b15_ : q < (1 : Int)
  · have h16_ := (if_pos b15_).symm.trans h14_
    obtain rfl := Option.some.inj h16_
    exact con_pc (op := true) (I := [52, 63, 97]) (sp := chkFactor_sp) 3000 (bT 1 (bF 1 (bT 1 (bF 2 (bT 2 (bF 5 (bT 7 []))))))) [.one (.bool r0), .one (.bool r1)] [c_T, c_nn b5_, c_T, c_nn b10_, c_F, c_T, c_T, c_n b11_, c_n b11_, c_n b11_, c_n b11_, c_n b13_, c_T, c_d b15_, c_d b15_, c_d b15_, c_d b15_, c_T, c_T] [k_c f1_, k_c f6_] (by kernel_rfl)
  have h16_ := (if_neg b15_).symm.trans h14_
  by_cases b17_ : q > (1000 : Int)
  · have h18_ := (if_pos b17_).symm.trans h16_
    obtain rfl := Option.some.inj h18_
    exact con_pc (op := true) (I := [52, 63, 97]) (sp := chkFactor_sp) 3000 (bT 1 (bF 1 (bT 1 (bF 2 (bT 2 (bF 5 (bT 1 (bF 4 (bT 2 []))))))))) [.one (.bool r0), .one (.bool r1)] [c_T, c_nn b5_, c_T, c_nn b10_, c_F, c_T, c_T, c_n b11_, c_n b11_, c_n b11_, c_n b11_, c_n b13_, c_T, c_n b15_, c_n b15_, c_n b15_, c_n b15_, c_d b17_, c_T] [k_c f1_, k_c f6_] (by kernel_rfl)
  have h18_ := (if_neg b17_).symm.trans h16_
  by_cases b19_ : u < (1 : Int)
  · have h20_ := (if_pos b19_).symm.trans h18_
    obtain rfl := Option.some.inj h20_
    exact con_pc (op := true) (I := [52, 63, 97]) (sp := chkFactor_sp) 3000 (bT 1 (bF 1 (bT 1 (bF 2 (bT 2 (bF 5 (bT 1 (bF 7 (bT 8 []))))))))) [.one (.bool r0), .one (.bool r1)] [c_T, c_nn b5_, c_T, c_nn b10_, c_F, c_T, c_T, c_n b11_, c_n b11_, c_n b11_, c_n b11_, c_n b13_, c_T, c_n b15_, c_n b15_, c_n b15_, c_n b15_, c_n b17_, c_F, c_F, c_T, c_T, c_d b19_, c_d b19_, c_d b19_, c_d b19_, c_T, c_T] [k_c f1_, k_c f6_] (by kernel_rfl)
  have h20_ := (if_neg b19_).symm.trans h18_
  by_cases b21_ : u > (1000 : Int)
  · have h22_ := (if_pos b21_).symm.trans h20_
    obtain rfl := Option.some.inj h22_
    exact con_pc (op := true) (I := [52, 63, 97]) (sp := chkFactor_sp) 3000 (bT 1 (bF 1 (bT 1 (bF 2 (bT 2 (bF 5 (bT 1 (bF 7 (bT 2 (bF 4 (bT 2 []))))))))))) [.one (.bool r0), .one (.bool r1)] [c_T, c_nn b5_, c_T, c_nn b10_, c_F, c_T, c_T, c_n b11_, c_n b11_, c_n b11_, c_n b11_, c_n b13_, c_T, c_n b15_, c_n b15_, c_n b15_, c_n b15_, c_n b17_, c_F, c_F, c_T, c_T, c_n b19_, c_n b19_, c_n b19_, c_n b19_, c_d b21_, c_T] [k_c f1_, k_c f6_] (by kernel_rfl)
  have h22_ := (if_neg b21_).symm.trans h20_
  by_cases b23_ : v < (1 : Int)
  · have h24_ := (if_pos b23_).symm.trans h22_
    obtain rfl := Option.some.inj h24_
    exact con_pc (op := true) (I := [52, 63, 97]) (sp := chkFactor_sp) 3000 (bT 1 (bF 1 (bT 1 (bF 2 (bT 2 (bF 5 (bT 1 (bF 7 (bT 2 (bF 5 (bT 7 []))))))))))) [.one (.bool r0), .one (.bool r1)] [c_T, c_nn b5_, c_T, c_nn b10_, c_F, c_T, c_T, c_n b11_, c_n b11_, c_n b11_, c_n b11_, c_n b13_, c_T, c_n b15_, c_n b15_, c_n b15_, c_n b15_, c_n b17_, c_F, c_F, c_T, c_T, c_n b19_, c_n b19_, c_n b19_, c_n b19_, c_n b21_, c_T, c_d b23_, c_d b23_, c_d b23_, c_d b23_, c_T, c_T] [k_c f1_, k_c f6_] (by kernel_rfl)
  have h24_ := (if_neg b23_).symm.trans h22_
  by_cases b25_ : v > (1000 : Int)
  · have h26_ := (if_pos b25_).symm.trans h24_
    obtain rfl := Option.some.inj h26_
    exact con_pc (op := true) (I := [52, 63, 97]) (sp := chkFactor_sp) 3000 (bT 1 (bF 1 (bT 1 (bF 2 (bT 2 (bF 5 (bT 1 (bF 7 (bT 2 (bF 5 (bT 1 (bF 4 (bT 2 []))))))))))))) [.one (.bool r0), .one (.bool r1)] [c_T, c_nn b5_, c_T, c_nn b10_, c_F, c_T, c_T, c_n b11_, c_n b11_, c_n b11_, c_n b11_, c_n b13_, c_T, c_n b15_, c_n b15_, c_n b15_, c_n b15_, c_n b17_, c_F, c_F, c_T, c_T, c_n b19_, c_n b19_, c_n b19_, c_n b19_, c_n b21_, c_T, c_n b23_, c_n b23_, c_n b23_, c_n b23_, c_d b25_, c_T] [k_c f1_, k_c f6_] (by kernel_rfl)
  have h26_ := (if_neg b25_).symm.trans h24_
  obtain ⟨r2, f27_, h28_⟩ := pullD_elim h26_
  replace f27_ := m_91_ok f27_
  by_cases b29_ : (r2) = true
  · have h30_ := (if_pos b29_).symm.trans h28_
    obtain rfl := Option.some.inj h30_
    exact con_pc (op := true) (I := [52, 63, 97]) (sp := chkFactor_sp) 3000 (bT 1 (bF 1 (bT 1 (bF 2 (bT 2 (bF 5 (bT 1 (bF 7 (bT 2 (bF 5 (bT 1 (bF 8 (bT 1 []))))))))))))) [.one (.bool r0), .one (.bool r1), .one (.bool r2)] [c_T, c_nn b5_, c_T, c_nn b10_, c_F, c_T, c_T, c_n b11_, c_n b11_, c_n b11_, c_n b11_, c_n b13_, c_T, c_n b15_, c_n b15_, c_n b15_, c_n b15_, c_n b17_, c_F, c_F, c_T, c_T, c_n b19_, c_n b19_, c_n b19_, c_n b19_, c_n b21_, c_T, c_n b23_, c_n b23_, c_n b23_, c_n b23_, c_n b25_, c_F, c_F, c_F, c_q b29_] [k_c f1_, k_c f6_, k_c f27_] (by kernel_rfl)
  have h30_ := (if_neg b29_).symm.trans h28_
  have b31_ : (r2) = false := by first | exact b29_ | simpa using b29_
  obtain rfl := Option.some.inj h30_
  exact con_pc (op := true) (I := [52, 63, 97]) (sp := chkFactor_sp) 3000 (bT 1 (bF 1 (bT 1 (bF 2 (bT 2 (bF 5 (bT 1 (bF 7 (bT 2 (bF 5 (bT 1 (bF 9 [])))))))))))) [.one (.bool r0), .one (.bool r1), .one (.bool r2)] [c_T, c_nn b5_, c_T, c_nn b10_, c_F, c_T, c_T, c_n b11_, c_n b11_, c_n b11_, c_n b11_, c_n b13_, c_T, c_n b15_, c_n b15_, c_n b15_, c_n b15_, c_n b17_, c_F, c_F, c_T, c_T, c_n b19_, c_n b19_, c_n b19_, c_n b19_, c_n b21_, c_T, c_n b23_, c_n b23_, c_n b23_, c_n b23_, c_n b25_, c_F, c_F, c_F, c_q b31_] [k_c f1_, k_c f6_, k_c f27_] (by kernel_rfl)
def m_52 (ds : List D) : Option D := pullD (α := Int × Int × Int × Int) (some (.tup ds)) (fun d => ((D.vi (D.at (D.at d 0) 0)), (D.vi (D.at (D.at d 0) 1)), (D.vi (D.at (D.at d 0) 2)), (D.vi (D.at (D.at d 0) 3)))) (fun (p, q, u, v) => .tup [(shNK5_0 p q u v)]) fun (p, q, u, v) => chkFactor_M p q u v
theorem m_52_ok {ds : List D} {r : D} (h : m_52 ds = some r) : Con 52 ds r := by
  unfold m_52 at h
  obtain ⟨⟨p, q, u, v⟩, e0, h0⟩ := pullD_elim h
  obtain rfl := tup_inj e0
  exact chkFactor_M_ok p q u v h0
theorem m_52_eq (p q u v : Int) : m_52 [(shNK5_0 p q u v)] = chkFactor_M p q u v := pullD_some (p, q, u, v) rfl rfl
def facErr_sp : List LSpec := []
def facErr_M (p q u v : Int) : Option D := pullD (α := Bool) (m_88 [.agg [iD p, iD q]]) (fun d => ((D.vb d))) (fun r0 => .one (.bool r0)) fun r0 => ((if r0 = false then some (iD (3 : Int)) else pullD (α := Bool) (m_88 [.agg [iD u, iD v]]) (fun d => ((D.vb d))) (fun r1 => .one (.bool r1)) fun r1 => ((if r1 = false then some (iD (3 : Int)) else pullD (α := Bool) (m_24 [iD p, iD (1 : Int), iD (1000 : Int)]) (fun d => ((D.vb d))) (fun r2 => .one (.bool r2)) fun r2 => ((if r2 = false then some (iD (2 : Int)) else pullD (α := Bool) (m_24 [iD u, iD (1 : Int), iD (1000 : Int)]) (fun d => ((D.vb d))) (fun r3 => .one (.bool r3)) fun r3 => ((if r3 = false then some (iD (2 : Int)) else (if q > (1000 : Int) then some (iD (2 : Int)) else (if v > (1000 : Int) then some (iD (2 : Int)) else pullD (α := Int) (m_89 [.agg [iD p, iD q], .agg [iD u, iD v]]) (fun d => ((D.vi d))) (fun r4 => iD r4) fun r4 => ((if r4 > (0 : Int) then some (iD (9 : Int)) else some (iD (0 : Int))))))))))))))
theorem facErr_M_ok (p q u v : Int) {r : D} (h : facErr_M p q u v = some r) : Con 49 [(shNK5_0 p q u v)] r := by
  unfold facErr_M at h
  obtain ⟨r0, f1_, h2_⟩ := pullD_elim h
  replace f1_ := m_88_ok f1_
  by_cases b3_ : r0 = false
  · have h4_ := (if_pos b3_).symm.trans h2_
    obtain rfl := Option.some.inj h4_
    exact con_pc (op := true) (I := [49]) (sp := facErr_sp) 3000 (bT 6 []) [.one (.bool r0)] [c_no b3_, c_no b3_, c_no b3_, c_no b3_, c_no b3_, c_T] [k_c f1_] (by kernel_rfl)
  have h4_ := (if_neg b3_).symm.trans h2_
  have b5_ : r0 = true := by first | exact b3_ | simpa using b3_
  obtain ⟨r1, f6_, h7_⟩ := pullD_elim h4_
  replace f6_ := m_88_ok f6_
  by_cases b8_ : r1 = false
  · have h9_ := (if_pos b8_).symm.trans h7_
    obtain rfl := Option.some.inj h9_
    exact con_pc (op := true) (I := [49]) (sp := facErr_sp) 3000 (bF 5 (bT 1 [])) [.one (.bool r0), .one (.bool r1)] [c_nn b5_, c_nn b5_, c_nn b5_, c_nn b5_, c_nn b5_, c_no b8_] [k_c f1_, k_c f6_] (by kernel_rfl)
  have h9_ := (if_neg b8_).symm.trans h7_
  have b10_ : r1 = true := by first | exact b8_ | simpa using b8_
  obtain ⟨r2, f11_, h12_⟩ := pullD_elim h9_
  replace f11_ := m_24_ok f11_
  by_cases b13_ : r2 = false
  · have h14_ := (if_pos b13_).symm.trans h12_
    obtain rfl := Option.some.inj h14_
    exact con_pc (op := true) (I := [49]) (sp := facErr_sp) 3000 (bF 6 (bT 17 [])) [.one (.bool r0), .one (.bool r1), .one (.bool r2)] [c_nn b5_, c_nn b5_, c_nn b5_, c_nn b5_, c_nn b5_, c_nn b10_, c_no b13_, c_no b13_, c_no b13_, c_no b13_, c_no b13_, c_no b13_, c_T, c_T, c_T, c_T, c_T, c_T, c_T, c_T, c_T, c_T, c_T] [k_c f1_, k_c f6_, k_c f11_] (by kernel_rfl)
  have h14_ := (if_neg b13_).symm.trans h12_
  have b15_ : r2 = true := by first | exact b13_ | simpa using b13_
  obtain ⟨r3, f16_, h17_⟩ := pullD_elim h14_
  replace f16_ := m_24_ok f16_
  by_cases b18_ : r3 = false
  · have h19_ := (if_pos b18_).symm.trans h17_
    obtain rfl := Option.some.inj h19_
    exact con_pc (op := true) (I := [49]) (sp := facErr_sp) 3000 (bF 12 (bT 11 [])) [.one (.bool r0), .one (.bool r1), .one (.bool r2), .one (.bool r3)] [c_nn b5_, c_nn b5_, c_nn b5_, c_nn b5_, c_nn b5_, c_nn b10_, c_nn b15_, c_nn b15_, c_nn b15_, c_nn b15_, c_nn b15_, c_nn b15_, c_no b18_, c_no b18_, c_no b18_, c_no b18_, c_no b18_, c_T, c_T, c_T, c_T, c_T, c_T] [k_c f1_, k_c f6_, k_c f11_, k_c f16_] (by kernel_rfl)
  have h19_ := (if_neg b18_).symm.trans h17_
  have b20_ : r3 = true := by first | exact b18_ | simpa using b18_
  by_cases b21_ : q > (1000 : Int)
  · have h22_ := (if_pos b21_).symm.trans h19_
    obtain rfl := Option.some.inj h22_
    exact con_pc (op := true) (I := [49]) (sp := facErr_sp) 3000 (bF 17 (bT 6 [])) [.one (.bool r0), .one (.bool r1), .one (.bool r2), .one (.bool r3)] [c_nn b5_, c_nn b5_, c_nn b5_, c_nn b5_, c_nn b5_, c_nn b10_, c_nn b15_, c_nn b15_, c_nn b15_, c_nn b15_, c_nn b15_, c_nn b15_, c_nn b20_, c_nn b20_, c_nn b20_, c_nn b20_, c_nn b20_, c_d b21_, c_d b21_, c_d b21_, c_d b21_, c_d b21_, c_T] [k_c f1_, k_c f6_, k_c f11_, k_c f16_] (by kernel_rfl)
  have h22_ := (if_neg b21_).symm.trans h19_
  by_cases b23_ : v > (1000 : Int)
  · have h24_ := (if_pos b23_).symm.trans h22_
    obtain rfl := Option.some.inj h24_
    exact con_pc (op := true) (I := [49]) (sp := facErr_sp) 3000 (bF 22 (bT 1 [])) [.one (.bool r0), .one (.bool r1), .one (.bool r2), .one (.bool r3)] [c_nn b5_, c_nn b5_, c_nn b5_, c_nn b5_, c_nn b5_, c_nn b10_, c_nn b15_, c_nn b15_, c_nn b15_, c_nn b15_, c_nn b15_, c_nn b15_, c_nn b20_, c_nn b20_, c_nn b20_, c_nn b20_, c_nn b20_, c_n b21_, c_n b21_, c_n b21_, c_n b21_, c_n b21_, c_d b23_] [k_c f1_, k_c f6_, k_c f11_, k_c f16_] (by kernel_rfl)
  have h24_ := (if_neg b23_).symm.trans h22_
  obtain ⟨r4, f25_, h26_⟩ := pullD_elim h24_
  replace f25_ := m_89_ok f25_
  by_cases b27_ : r4 > (0 : Int)
  · have h28_ := (if_pos b27_).symm.trans h26_
    obtain rfl := Option.some.inj h28_
    exact con_pc (op := true) (I := [49]) (sp := facErr_sp) 3000 (bF 23 (bT 1 [])) [.one (.bool r0), .one (.bool r1), .one (.bool r2), .one (.bool r3), iD r4] [c_nn b5_, c_nn b5_, c_nn b5_, c_nn b5_, c_nn b5_, c_nn b10_, c_nn b15_, c_nn b15_, c_nn b15_, c_nn b15_, c_nn b15_, c_nn b15_, c_nn b20_, c_nn b20_, c_nn b20_, c_nn b20_, c_nn b20_, c_n b21_, c_n b21_, c_n b21_, c_n b21_, c_n b21_, c_n b23_, c_d b27_] [k_c f1_, k_c f6_, k_c f11_, k_c f16_, k_c f25_] (by kernel_rfl)
  have h28_ := (if_neg b27_).symm.trans h26_
  obtain rfl := Option.some.inj h28_
  exact con_pc (op := true) (I := [49]) (sp := facErr_sp) 3000 (bF 24 []) [.one (.bool r0), .one (.bool r1), .one (.bool r2), .one (.bool r3), iD r4] [c_nn b5_, c_nn b5_, c_nn b5_, c_nn b5_, c_nn b5_, c_nn b10_, c_nn b15_, c_nn b15_, c_nn b15_, c_nn b15_, c_nn b15_, c_nn b15_, c_nn b20_, c_nn b20_, c_nn b20_, c_nn b20_, c_nn b20_, c_n b21_, c_n b21_, c_n b21_, c_n b21_, c_n b21_, c_n b23_, c_n b27_] [k_c f1_, k_c f6_, k_c f11_, k_c f16_, k_c f25_] (by kernel_rfl)
def m_49 (ds : List D) : Option D := pullD (α := Int × Int × Int × Int) (some (.tup ds)) (fun d => ((D.vi (D.at (D.at d 0) 0)), (D.vi (D.at (D.at d 0) 1)), (D.vi (D.at (D.at d 0) 2)), (D.vi (D.at (D.at d 0) 3)))) (fun (p, q, u, v) => .tup [(shNK5_0 p q u v)]) fun (p, q, u, v) => facErr_M p q u v
theorem m_49_ok {ds : List D} {r : D} (h : m_49 ds = some r) : Con 49 ds r := by
  unfold m_49 at h
  obtain ⟨⟨p, q, u, v⟩, e0, h0⟩ := pullD_elim h
  obtain rfl := tup_inj e0
  exact facErr_M_ok p q u v h0
theorem m_49_eq (p q u v : Int) : m_49 [(shNK5_0 p q u v)] = facErr_M p q u v := pullD_some (p, q, u, v) rfl rfl
def chkRules_x7_0 : LExit := ⟨some 0, [], (2 :: (5 :: (6 :: (List.range' 25 10))))⟩
def chkRules_x7_1 : LExit := ⟨none, [.val 2], (5 :: (6 :: (List.range' 25 10)))⟩
def chkRules_sp : List LSpec := [⟨15, 7, [chkRules_x7_0, chkRules_x7_1]⟩]
def chkRules_L7_E (re fa fb fc fd : Int) (k : Nat) (c : List D) (x0 : Int) (x1 : Int) (x2 : Int) : List AV × AHeap := ([.agg [.pure (.int .i64 re), .pure (.int .i64 fa), .pure (.int .i64 fb), .pure (.int .i64 fc), .pure (.int .i64 fd), .dsl 0], .ptr 1 0, .pure (.int .i64 (0 : Int)), .pure (.int .i64 x2), .pure (.tuple #[]), .pure (.tuple #[]), .pure (.tuple #[]), .ptr 1 0, .pure (.int .i64 re), .pure (.int .i64 x0), .ptr 1 1, .pure (.agg #[.int .i64 fa, .int .i64 fb, .int .i64 fc, .int .i64 fd]), .pure (.int .i64 x1), .sl 2 0 2 2, .pure (.int .i64 x2), .pure (.int .i64 x2), .pure (.bool (x2 != (0 : Int))), .pure (.tuple #[]), .ptr 1 5, .dsl 0, .pure (.int .i64 (k : Int)), .pure (.bool (decide ((k : Int) > (4 : Int)))), .ptr 1 5, .dsl 0, .pure (.int .i64 (k : Int)), .pure (.int .i64 (0 : Int)), .pure (.tuple #[]), .pure (.tuple #[]), .pure (.tuple #[]), .pure (.tuple #[]), .pure (.tuple #[]), .pure (.tuple #[]), .pure (.tuple #[]), .pure (.tuple #[]), .pure (.tuple #[])], [(2, { cells := [.pure (.int .i64 x0), .pure (.int .i64 x1)], opn := none, kind := .cells }), (1, { cells := [.pure (.int .i64 re), .pure (.int .i64 fa), .pure (.int .i64 fb), .pure (.int .i64 fc), .pure (.int .i64 fd), .dsl 0], opn := none, kind := .cells }), (0, { cells := [], opn := none, kind := .deep k c })])
def chkRules_L7_A : LoopAt := ⟨15, loopAt Try.prog 15 0, 3, 16, 3, noFrame⟩
theorem chkRules_L7_ok : (chkRules_L7_A).OK := ⟨by show 3 ≤ 16; decide, by show 3 ≤ 3; decide, by kernel_rfl, rfl⟩
def chkRules_L7_gs (re fa fb fc fd : Int) (k : Nat) (c : List D) (x0 : Int) (x1 : Int) (x2 : Int) : Go.Ev.Rd → Option GS
  | .next 0 ds => ghost [.val 25] (2 :: (5 :: (6 :: (List.range' 26 9)))) (chkRules_L7_E re fa fb fc fd k c x0 x1 x2).1 (chkRules_L7_E re fa fb fc fd k c x0 x1 x2).2 3 ds
  | .out 0 ds => ghost chkRules_x7_0.live chkRules_x7_0.junk (chkRules_L7_E re fa fb fc fd k c x0 x1 x2).1 (chkRules_L7_E re fa fb fc fd k c x0 x1 x2).2 3 ds
  | .out 1 ds => ghost chkRules_x7_1.live chkRules_x7_1.junk (chkRules_L7_E re fa fb fc fd k c x0 x1 x2).1 (chkRules_L7_E re fa fb fc fd k c x0 x1 x2).2 3 ds
  | _ => none
def chkRules_L7_ex : Nat → Option Nat
  | 0 => chkRules_x7_0.ex
  | 1 => chkRules_x7_1.ex
  | _ => none
def chkRules_L7_ax : Go.Ev.Rd → AX
  | .next _ _ => .normal
  | .out j _ => axOf (chkRules_L7_ex j)
def chkRules_L7_S0 (re fa fb fc fd : Int) (k : Nat) (c : List D) (x0 : Int) (x1 : Int) (x2 : Int) (ds : List D) : Option Go.Ev.Rd := pullD (α := Int) (some (.tup ds)) (fun d => ((D.vi (D.at d 0)))) (fun s25 => .tup [iD s25]) fun s25 => ((if s25 < (k : Int) then guardP ((0 : Int) ≤ s25 ∧ s25.toNat < k) (pullD (readD c (s25.toNat * 4) 4 true) shNK5_0P (fun (v0, v1, v2, v3) => (shNK5_0 v0 v1 v2 v3)) fun (v0, v1, v2, v3) => (pullD (α := Int) (m_52 [(shNK5_0 v0 v1 v2 v3)]) (fun d => ((D.vi d))) (fun r4 => iD r4) fun r4 => ((if r4 ≠ (0 : Int) then some (.out 1 [iD r4]) else some (.next 0 [iD (IntKind.i64.wrap (s25 + (1 : Int)))]))))) else some (.out 0 [])))
def chkRules_L7_S (re fa fb fc fd : Int) (k : Nat) (c : List D) (x0 : Int) (x1 : Int) (x2 : Int) : Go.Ev.Rd → Option Go.Ev.Rd
  | .next 0 ds => chkRules_L7_S0 re fa fb fc fd k c x0 x1 x2 ds
  | _ => none
theorem chkRules_L7_S_0 (re fa fb fc fd : Int) (k : Nat) (c : List D) (x0 : Int) (x1 : Int) (x2 : Int) (ds : List D) : chkRules_L7_S re fa fb fc fd k c x0 x1 x2 (.next 0 ds) = chkRules_L7_S0 re fa fb fc fd k c x0 x1 x2 ds := rfl
theorem chkRules_L7_S_ok (re fa fb fc fd : Int) (k : Nat) (c : List D) (x0 : Int) (x1 : Int) (x2 : Int) : ∀ s_ t_, chkRules_L7_S re fa fb fc fd k c x0 x1 x2 s_ = some t_ → Step (ctx [15] chkRules_sp) Tabs chkRules_L7_A (stateOf (chkRules_L7_gs re fa fb fc fd k c x0 x1 x2 s_)) (stateOf (chkRules_L7_gs re fa fb fc fd k c x0 x1 x2 t_)) (chkRules_L7_ax t_) ∧ EndOK chkRules_L7_A.nx chkRules_L7_A.low (chkRules_L7_gs re fa fb fc fd k c x0 x1 x2) t_
  | .next 0 ds, t_, h => by
    have h_ : chkRules_L7_S0 re fa fb fc fd k c x0 x1 x2 ds = some t_ := h
    clear h
    unfold chkRules_L7_S0 at h_
    obtain ⟨s25, e0, h0⟩ := pullD_elim h_
    clear h_
    obtain rfl := tup_inj e0
    by_cases b1_ : s25 < (k : Int)
    · have h2_ := (if_pos b1_).symm.trans h0
      obtain ⟨f3_, h4_⟩ := guardP_elim h2_
      obtain ⟨⟨v0, v1, v2, v3⟩, f5_, h6_⟩ := pullD_elim h4_
      replace f5_ := readD_elim f5_
      obtain ⟨r4, f7_, h8_⟩ := pullD_elim h6_
      replace f7_ := m_52_ok f7_
      by_cases b9_ : r4 ≠ (0 : Int)
      · have h10_ := (if_pos b9_).symm.trans h8_
        obtain rfl := Option.some.inj h10_
        exact ⟨step_pc 3000 (bT 2 []) [(shNK5_0 v0 v1 v2 v3), iD r4] [c_d b1_, c_f f3_, c_f f5_, c_b b9_] [k_c f7_] _ rfl (by kernel_rfl) (by kernel_rfl) (by kernel_rfl) (by kernel_rfl) (by kernel_rfl) (by kernel_rfl), by kernel_rfl, by kernel_rfl⟩
      have h10_ := (if_neg b9_).symm.trans h8_
      have b11_ : r4 = (0 : Int) := by first | exact b9_ | simpa using b9_
      obtain rfl := Option.some.inj h10_
      exact ⟨step_pc 3000 (bT 1 (bF 1 [])) [(shNK5_0 v0 v1 v2 v3), iD r4] [c_d b1_, c_f f3_, c_f f5_, c_bn b11_] [k_c f7_] _ rfl (by kernel_rfl) (by kernel_rfl) (by kernel_rfl) (by kernel_rfl) (by kernel_rfl) (by kernel_rfl), trivial⟩
    have h2_ := (if_neg b1_).symm.trans h0
    obtain rfl := Option.some.inj h2_
    exact ⟨step_pc 3000 (bF 1 []) [] [c_n b1_] [] _ rfl (by kernel_rfl) (by kernel_rfl) (by kernel_rfl) (by kernel_rfl) (by kernel_rfl) (by kernel_rfl), by kernel_rfl, by kernel_rfl⟩
  | .next (_ + 1) _, _, h => by cases h
  | .out _ _, _, h => by cases h
theorem chkRules_L7_go (re fa fb fc fd : Int) (k : Nat) (c : List D) (x0 : Int) (x1 : Int) (x2 : Int) {q : Nat} {ds : List D} {j : Nat} {es : List D} (h : runR (chkRules_L7_S re fa fb fc fd k c x0 x1 x2) (.next q ds) = some (.out j es)) : Runs (ctx [15] chkRules_sp) Tabs chkRules_L7_A (stateOf (chkRules_L7_gs re fa fb fc fd k c x0 x1 x2 (.next q ds))) (stateOf (chkRules_L7_gs re fa fb fc fd k c x0 x1 x2 (.out j es))) (chkRules_L7_ax (.out j es)) ∧ (nxtOf (chkRules_L7_gs re fa fb fc fd k c x0 x1 x2 (.out j es)), lowGS (chkRules_L7_gs re fa fb fc fd k c x0 x1 x2 (.out j es))) = (chkRules_L7_A.nx, chkRules_L7_A.low) :=
  runs_of' (good true _ _) chkRules_L7_ok (ax := chkRules_L7_ax) (fun _ _ => rfl) (fun _ _ => axOf_end _) (chkRules_L7_S_ok re fa fb fc fd k c x0 x1 x2) h
theorem chkRules_L7_in0 (re fa fb fc fd : Int) (k : Nat) (c : List D) (x0 : Int) (x1 : Int) (x2 : Int) {es : List D} (h : runR (chkRules_L7_S re fa fb fc fd k c x0 x1 x2) (.next 0 [iD ((0 : Int))]) = some (.out 0 es)) : LoopC (loopAt Try.prog 15 0) (chkRules_L7_E re fa fb fc fd k c x0 x1 x2) 3 noFrame chkRules_x7_0 es :=
  have r := chkRules_L7_go re fa fb fc fd k c x0 x1 x2 h
  loopin_as rfl (loop_in (l := chkRules_L7_A) (E := (chkRules_L7_E re fa fb fc fd k c x0 x1 x2)) (S := stateOf (chkRules_L7_gs re fa fb fc fd k c x0 x1 x2 (.next 0 [iD ((0 : Int))]))) (ns := nsOf (chkRules_L7_gs re fa fb fc fd k c x0 x1 x2 (.next 0 [iD ((0 : Int))]))) chkRules_L7_ok r.1 r.2 (by kernel_rfl) (by kernel_rfl) (by kernel_rfl) (by kernel_rfl))
theorem chkRules_L7_in1 (re fa fb fc fd : Int) (k : Nat) (c : List D) (x0 : Int) (x1 : Int) (x2 : Int) {es : List D} (h : runR (chkRules_L7_S re fa fb fc fd k c x0 x1 x2) (.next 0 [iD ((0 : Int))]) = some (.out 1 es)) : LoopC (loopAt Try.prog 15 0) (chkRules_L7_E re fa fb fc fd k c x0 x1 x2) 3 noFrame chkRules_x7_1 es :=
  have r := chkRules_L7_go re fa fb fc fd k c x0 x1 x2 h
  loopin_as rfl (loop_in (l := chkRules_L7_A) (E := (chkRules_L7_E re fa fb fc fd k c x0 x1 x2)) (S := stateOf (chkRules_L7_gs re fa fb fc fd k c x0 x1 x2 (.next 0 [iD ((0 : Int))]))) (ns := nsOf (chkRules_L7_gs re fa fb fc fd k c x0 x1 x2 (.next 0 [iD ((0 : Int))]))) chkRules_L7_ok r.1 r.2 (by kernel_rfl) (by kernel_rfl) (by kernel_rfl) (by kernel_rfl))
def chkRules_M (re fa fb fc fd : Int) (k : Nat) (c : List D) : Option D := pullD (α := Int) (m_51 [iD re]) (fun d => ((D.vi d))) (fun r0 => iD r0) fun r0 => (pullD (α := Int) (m_52 [(shNK5_0 fa fb fc fd)]) (fun d => ((D.vi d))) (fun r1 => iD r1) fun r1 => (pullD (α := Int) (m_50 [.list 2 [iD r0, iD r1]]) (fun d => ((D.vi d))) (fun r2 => iD r2) fun r2 => ((if r2 ≠ (0 : Int) then some (iD r2) else (if (k : Int) > (4 : Int) then some (iD (8 : Int)) else bindL (runR (chkRules_L7_S re fa fb fc fd k c r0 r1 r2) (.next 0 [iD ((0 : Int))])) fun j ds => (if j = 0 then pullD (some (.tup ds)) (fun _ => ()) (fun _ => .tup []) fun _ => (some (iD (0 : Int))) else if j = 1 then pullD (α := Int) (some (.tup ds)) (fun d => ((D.vi (D.at d 0)))) (fun l3 => .tup [iD l3]) fun l3 => (some (iD l3)) else none))))))
theorem chkRules_M_ok (re fa fb fc fd : Int) (k : Nat) (c : List D) {r : D} (h : chkRules_M re fa fb fc fd k c = some r) : Con 15 [.agg [iD re, iD fa, iD fb, iD fc, iD fd, .list k c]] r := by
  unfold chkRules_M at h
  obtain ⟨r0, f1_, h2_⟩ := pullD_elim h
  replace f1_ := m_51_ok f1_
  obtain ⟨r1, f3_, h4_⟩ := pullD_elim h2_
  replace f3_ := m_52_ok f3_
  obtain ⟨r2, f5_, h6_⟩ := pullD_elim h4_
  replace f5_ := m_50_ok f5_
  by_cases b7_ : r2 ≠ (0 : Int)
  · have h8_ := (if_pos b7_).symm.trans h6_
    obtain rfl := Option.some.inj h8_
    exact con_pc (op := true) (I := [15]) (sp := chkRules_sp) 3000 (bT 1 []) [iD r0, iD r1, iD r2] [c_le 1, c_b b7_] [k_c f1_, k_c f3_, k_c f5_] (by kernel_rfl)
  have h8_ := (if_neg b7_).symm.trans h6_
  have b9_ : r2 = (0 : Int) := by first | exact b7_ | simpa using b7_
  by_cases b10_ : (k : Int) > (4 : Int)
  · have h11_ := (if_pos b10_).symm.trans h8_
    obtain rfl := Option.some.inj h11_
    exact con_pc (op := true) (I := [15]) (sp := chkRules_sp) 3000 (bF 1 (bT 1 [])) [iD r0, iD r1, iD r2] [c_le 1, c_bn b9_, c_d b10_] [k_c f1_, k_c f3_, k_c f5_] (by kernel_rfl)
  have h11_ := (if_neg b10_).symm.trans h8_
  obtain ⟨j, ds, e12_, h13_⟩ := bindL_elim h11_
  by_cases j14_ : j = 0
  · have h17_ := (if_pos j14_).symm.trans h13_
    clear h13_
    subst j14_
    obtain ⟨⟨⟩, e15_, h18_⟩ := pullD_elim h17_
    clear h17_
    obtain rfl := tup_inj e15_
    have k16_ := chkRules_L7_in0 re fa fb fc fd k c r0 r1 r2 e12_
    obtain rfl := Option.some.inj h18_
    exact con_pc (op := true) (I := [15]) (sp := chkRules_sp) 3000 (bF 2 []) [iD r0, iD r1, iD r2, .tup [iD (Int.ofNat 0)]] [c_le 1, c_bn b9_, c_n b10_] [k_c f1_, k_c f3_, k_c f5_, k_l k16_ [] [.tup [iD (Int.ofNat 0)]] []] (by kernel_rfl)
  have h19_ := (if_neg j14_).symm.trans h13_
  clear h13_
  by_cases j20_ : j = 1
  · have h23_ := (if_pos j20_).symm.trans h19_
    clear h19_
    subst j20_
    obtain ⟨l3, e21_, h24_⟩ := pullD_elim h23_
    clear h23_
    obtain rfl := tup_inj e21_
    have k22_ := chkRules_L7_in1 re fa fb fc fd k c r0 r1 r2 e12_
    obtain rfl := Option.some.inj h24_
    exact con_pc (op := true) (I := [15]) (sp := chkRules_sp) 3000 (bF 2 []) [iD r0, iD r1, iD r2, .tup [iD (Int.ofNat 1), iD l3]] [c_le 1, c_bn b9_, c_n b10_] [k_c f1_, k_c f3_, k_c f5_, k_l k22_ [] [.tup [iD (Int.ofNat 1), iD l3]] []] (by kernel_rfl)
  have h25_ := (if_neg j20_).symm.trans h19_
  clear h19_
  cases h25_
def m_15 (ds : List D) : Option D := pullD (α := Int × Int × Int × Int × Int × Nat × (List D)) (some (.tup ds)) (fun d => ((D.vi (D.at (D.at d 0) 0)), (D.vi (D.at (D.at d 0) 1)), (D.vi (D.at (D.at d 0) 2)), (D.vi (D.at (D.at d 0) 3)), (D.vi (D.at (D.at d 0) 4)), (D.ln (D.at (D.at d 0) 5)), (D.lc (D.at (D.at d 0) 5)))) (fun (re, fa, fb, fc, fd, k, c) => .tup [.agg [iD re, iD fa, iD fb, iD fc, iD fd, .list k c]]) fun (re, fa, fb, fc, fd, k, c) => chkRules_M re fa fb fc fd k c
theorem m_15_ok {ds : List D} {r : D} (h : m_15 ds = some r) : Con 15 ds r := by
  unfold m_15 at h
  obtain ⟨⟨re, fa, fb, fc, fd, k, c⟩, e0, h0⟩ := pullD_elim h
  obtain rfl := tup_inj e0
  exact chkRules_M_ok re fa fb fc fd k c h0
theorem m_15_eq (re fa fb fc fd : Int) (k : Nat) (c : List D) : m_15 [.agg [iD re, iD fa, iD fb, iD fc, iD fd, .list k c]] = chkRules_M re fa fb fc fd k c := pullD_some (re, fa, fb, fc, fd, k, c) rfl rfl
def rulesErr_x9_0 : LExit := ⟨some 0, [], (2 :: (4 :: (5 :: (List.range' 20 16))))⟩
def rulesErr_x9_1 : LExit := ⟨none, [.val 2], (4 :: (5 :: (List.range' 20 16)))⟩
def rulesErr_sp : List LSpec := [⟨14, 9, [rulesErr_x9_0, rulesErr_x9_1]⟩]
def rulesErr_L9_E (re fa fb fc fd : Int) (k : Nat) (c : List D) (x0 : Bool) (x1 : Int) : List AV × AHeap := ([.agg [.pure (.int .i64 re), .pure (.int .i64 fa), .pure (.int .i64 fb), .pure (.int .i64 fc), .pure (.int .i64 fd), .dsl 0], .ptr 1 0, .pure (.int .i64 (0 : Int)), .pure (.int .i64 x1), .pure (.int .i64 (0 : Int)), .pure (.tuple #[]), .ptr 1 0, .pure (.int .i64 re), .pure (.bool x0), .pure (.bool !x0), .ptr 1 1, .pure (.agg #[.int .i64 fa, .int .i64 fb, .int .i64 fc, .int .i64 fd]), .pure (.int .i64 x1), .pure (.int .i64 x1), .pure (.bool (x1 != (0 : Int))), .pure (.tuple #[]), .ptr 1 5, .dsl 0, .pure (.int .i64 (k : Int)), .pure (.bool (decide ((k : Int) > (4 : Int)))), .pure (.tuple #[]), .pure (.tuple #[]), .pure (.tuple #[]), .pure (.tuple #[]), .pure (.tuple #[]), .pure (.tuple #[]), .pure (.tuple #[]), .pure (.tuple #[]), .pure (.tuple #[]), .pure (.tuple #[]), .pure (.tuple #[]), .pure (.tuple #[]), .pure (.tuple #[]), .pure (.tuple #[]), .pure (.tuple #[]), .pure (.tuple #[])], [(1, { cells := [.pure (.int .i64 re), .pure (.int .i64 fa), .pure (.int .i64 fb), .pure (.int .i64 fc), .pure (.int .i64 fd), .dsl 0], opn := none, kind := .cells }), (0, { cells := [], opn := none, kind := .deep k c })])
def rulesErr_L9_A : LoopAt := ⟨14, loopAt Try.prog 14 0, 2, 21, 2, noFrame⟩
theorem rulesErr_L9_ok : (rulesErr_L9_A).OK := ⟨by show 2 ≤ 21; decide, by show 2 ≤ 2; decide, by kernel_rfl, rfl⟩
def rulesErr_L9_gs (re fa fb fc fd : Int) (k : Nat) (c : List D) (x0 : Bool) (x1 : Int) : Go.Ev.Rd → Option GS
  | .next 0 ds => ghost [.val 4] (2 :: (5 :: (List.range' 20 16))) (rulesErr_L9_E re fa fb fc fd k c x0 x1).1 (rulesErr_L9_E re fa fb fc fd k c x0 x1).2 2 ds
  | .out 0 ds => ghost rulesErr_x9_0.live rulesErr_x9_0.junk (rulesErr_L9_E re fa fb fc fd k c x0 x1).1 (rulesErr_L9_E re fa fb fc fd k c x0 x1).2 2 ds
  | .out 1 ds => ghost rulesErr_x9_1.live rulesErr_x9_1.junk (rulesErr_L9_E re fa fb fc fd k c x0 x1).1 (rulesErr_L9_E re fa fb fc fd k c x0 x1).2 2 ds
  | _ => none
def rulesErr_L9_ex : Nat → Option Nat
  | 0 => rulesErr_x9_0.ex
  | 1 => rulesErr_x9_1.ex
  | _ => none
def rulesErr_L9_ax : Go.Ev.Rd → AX
  | .next _ _ => .normal
  | .out j _ => axOf (rulesErr_L9_ex j)
def rulesErr_L9_S0 (re fa fb fc fd : Int) (k : Nat) (c : List D) (x0 : Bool) (x1 : Int) (ds : List D) : Option Go.Ev.Rd := pullD (α := Int) (some (.tup ds)) (fun d => ((D.vi (D.at d 0)))) (fun s4 => .tup [iD s4]) fun s4 => ((if s4 < (k : Int) then guardP ((0 : Int) ≤ s4 ∧ s4.toNat < k) (pullD (readD c (s4.toNat * 4) 4 true) shNK5_0P (fun (v0, v1, v2, v3) => (shNK5_0 v0 v1 v2 v3)) fun (v0, v1, v2, v3) => (pullD (α := Int) (m_49 [(shNK5_0 v0 v1 v2 v3)]) (fun d => ((D.vi d))) (fun r4 => iD r4) fun r4 => ((if r4 ≠ (0 : Int) then some (.out 1 [iD r4]) else some (.next 0 [iD (IntKind.i64.wrap (s4 + (1 : Int)))]))))) else some (.out 0 [])))
def rulesErr_L9_S (re fa fb fc fd : Int) (k : Nat) (c : List D) (x0 : Bool) (x1 : Int) : Go.Ev.Rd → Option Go.Ev.Rd
  | .next 0 ds => rulesErr_L9_S0 re fa fb fc fd k c x0 x1 ds
  | _ => none
theorem rulesErr_L9_S_0 (re fa fb fc fd : Int) (k : Nat) (c : List D) (x0 : Bool) (x1 : Int) (ds : List D) : rulesErr_L9_S re fa fb fc fd k c x0 x1 (.next 0 ds) = rulesErr_L9_S0 re fa fb fc fd k c x0 x1 ds := rfl
theorem rulesErr_L9_S_ok (re fa fb fc fd : Int) (k : Nat) (c : List D) (x0 : Bool) (x1 : Int) : ∀ s_ t_, rulesErr_L9_S re fa fb fc fd k c x0 x1 s_ = some t_ → Step (ctx [14] rulesErr_sp) Tabs rulesErr_L9_A (stateOf (rulesErr_L9_gs re fa fb fc fd k c x0 x1 s_)) (stateOf (rulesErr_L9_gs re fa fb fc fd k c x0 x1 t_)) (rulesErr_L9_ax t_) ∧ EndOK rulesErr_L9_A.nx rulesErr_L9_A.low (rulesErr_L9_gs re fa fb fc fd k c x0 x1) t_
  | .next 0 ds, t_, h => by
    have h_ : rulesErr_L9_S0 re fa fb fc fd k c x0 x1 ds = some t_ := h
    clear h
    unfold rulesErr_L9_S0 at h_
    obtain ⟨s4, e0, h0⟩ := pullD_elim h_
    clear h_
    obtain rfl := tup_inj e0
    by_cases b1_ : s4 < (k : Int)
    · have h2_ := (if_pos b1_).symm.trans h0
      obtain ⟨f3_, h4_⟩ := guardP_elim h2_
      obtain ⟨⟨v0, v1, v2, v3⟩, f5_, h6_⟩ := pullD_elim h4_
      replace f5_ := readD_elim f5_
      obtain ⟨r4, f7_, h8_⟩ := pullD_elim h6_
      replace f7_ := m_49_ok f7_
      by_cases b9_ : r4 ≠ (0 : Int)
      · have h10_ := (if_pos b9_).symm.trans h8_
        obtain rfl := Option.some.inj h10_
        exact ⟨step_pc 3000 (bT 2 []) [(shNK5_0 v0 v1 v2 v3), iD r4] [c_d b1_, c_f f3_, c_f f5_, c_b b9_] [k_c f7_] _ rfl (by kernel_rfl) (by kernel_rfl) (by kernel_rfl) (by kernel_rfl) (by kernel_rfl) (by kernel_rfl), by kernel_rfl, by kernel_rfl⟩
      have h10_ := (if_neg b9_).symm.trans h8_
      have b11_ : r4 = (0 : Int) := by first | exact b9_ | simpa using b9_
      obtain rfl := Option.some.inj h10_
      exact ⟨step_pc 3000 (bT 1 (bF 1 [])) [(shNK5_0 v0 v1 v2 v3), iD r4] [c_d b1_, c_f f3_, c_f f5_, c_bn b11_] [k_c f7_] _ rfl (by kernel_rfl) (by kernel_rfl) (by kernel_rfl) (by kernel_rfl) (by kernel_rfl) (by kernel_rfl), trivial⟩
    have h2_ := (if_neg b1_).symm.trans h0
    obtain rfl := Option.some.inj h2_
    exact ⟨step_pc 3000 (bF 1 []) [] [c_n b1_] [] _ rfl (by kernel_rfl) (by kernel_rfl) (by kernel_rfl) (by kernel_rfl) (by kernel_rfl) (by kernel_rfl), by kernel_rfl, by kernel_rfl⟩
  | .next (_ + 1) _, _, h => by cases h
  | .out _ _, _, h => by cases h
theorem rulesErr_L9_go (re fa fb fc fd : Int) (k : Nat) (c : List D) (x0 : Bool) (x1 : Int) {q : Nat} {ds : List D} {j : Nat} {es : List D} (h : runR (rulesErr_L9_S re fa fb fc fd k c x0 x1) (.next q ds) = some (.out j es)) : Runs (ctx [14] rulesErr_sp) Tabs rulesErr_L9_A (stateOf (rulesErr_L9_gs re fa fb fc fd k c x0 x1 (.next q ds))) (stateOf (rulesErr_L9_gs re fa fb fc fd k c x0 x1 (.out j es))) (rulesErr_L9_ax (.out j es)) ∧ (nxtOf (rulesErr_L9_gs re fa fb fc fd k c x0 x1 (.out j es)), lowGS (rulesErr_L9_gs re fa fb fc fd k c x0 x1 (.out j es))) = (rulesErr_L9_A.nx, rulesErr_L9_A.low) :=
  runs_of' (good true _ _) rulesErr_L9_ok (ax := rulesErr_L9_ax) (fun _ _ => rfl) (fun _ _ => axOf_end _) (rulesErr_L9_S_ok re fa fb fc fd k c x0 x1) h
theorem rulesErr_L9_in0 (re fa fb fc fd : Int) (k : Nat) (c : List D) (x0 : Bool) (x1 : Int) {es : List D} (h : runR (rulesErr_L9_S re fa fb fc fd k c x0 x1) (.next 0 [iD ((0 : Int))]) = some (.out 0 es)) : LoopC (loopAt Try.prog 14 0) (rulesErr_L9_E re fa fb fc fd k c x0 x1) 2 noFrame rulesErr_x9_0 es :=
  have r := rulesErr_L9_go re fa fb fc fd k c x0 x1 h
  loopin_as rfl (loop_in (l := rulesErr_L9_A) (E := (rulesErr_L9_E re fa fb fc fd k c x0 x1)) (S := stateOf (rulesErr_L9_gs re fa fb fc fd k c x0 x1 (.next 0 [iD ((0 : Int))]))) (ns := nsOf (rulesErr_L9_gs re fa fb fc fd k c x0 x1 (.next 0 [iD ((0 : Int))]))) rulesErr_L9_ok r.1 r.2 (by kernel_rfl) (by kernel_rfl) (by kernel_rfl) (by kernel_rfl))
theorem rulesErr_L9_in1 (re fa fb fc fd : Int) (k : Nat) (c : List D) (x0 : Bool) (x1 : Int) {es : List D} (h : runR (rulesErr_L9_S re fa fb fc fd k c x0 x1) (.next 0 [iD ((0 : Int))]) = some (.out 1 es)) : LoopC (loopAt Try.prog 14 0) (rulesErr_L9_E re fa fb fc fd k c x0 x1) 2 noFrame rulesErr_x9_1 es :=
  have r := rulesErr_L9_go re fa fb fc fd k c x0 x1 h
  loopin_as rfl (loop_in (l := rulesErr_L9_A) (E := (rulesErr_L9_E re fa fb fc fd k c x0 x1)) (S := stateOf (rulesErr_L9_gs re fa fb fc fd k c x0 x1 (.next 0 [iD ((0 : Int))]))) (ns := nsOf (rulesErr_L9_gs re fa fb fc fd k c x0 x1 (.next 0 [iD ((0 : Int))]))) rulesErr_L9_ok r.1 r.2 (by kernel_rfl) (by kernel_rfl) (by kernel_rfl) (by kernel_rfl))
def rulesErr_M (re fa fb fc fd : Int) (k : Nat) (c : List D) : Option D := pullD (α := Bool) (m_24 [iD re, iD (0 : Int), iD (100 : Int)]) (fun d => ((D.vb d))) (fun r0 => .one (.bool r0)) fun r0 => ((if r0 = false then some (iD (2 : Int)) else pullD (α := Int) (m_49 [(shNK5_0 fa fb fc fd)]) (fun d => ((D.vi d))) (fun r1 => iD r1) fun r1 => ((if r1 ≠ (0 : Int) then some (iD r1) else (if (k : Int) > (4 : Int) then some (iD (8 : Int)) else bindL (runR (rulesErr_L9_S re fa fb fc fd k c r0 r1) (.next 0 [iD ((0 : Int))])) fun j ds => (if j = 0 then pullD (some (.tup ds)) (fun _ => ()) (fun _ => .tup []) fun _ => (some (iD (0 : Int))) else if j = 1 then pullD (α := Int) (some (.tup ds)) (fun d => ((D.vi (D.at d 0)))) (fun l2 => .tup [iD l2]) fun l2 => (some (iD l2)) else none))))))
theorem rulesErr_M_ok (re fa fb fc fd : Int) (k : Nat) (c : List D) {r : D} (h : rulesErr_M re fa fb fc fd k c = some r) : Con 14 [.agg [iD re, iD fa, iD fb, iD fc, iD fd, .list k c]] r := by
  unfold rulesErr_M at h
  obtain ⟨r0, f1_, h2_⟩ := pullD_elim h
  replace f1_ := m_24_ok f1_
  by_cases b3_ : r0 = false
  · have h4_ := (if_pos b3_).symm.trans h2_
    obtain rfl := Option.some.inj h4_
    exact con_pc (op := true) (I := [14]) (sp := rulesErr_sp) 3000 (bT 1 []) [.one (.bool r0)] [c_no b3_] [k_c f1_] (by kernel_rfl)
  have h4_ := (if_neg b3_).symm.trans h2_
  have b5_ : r0 = true := by first | exact b3_ | simpa using b3_
  obtain ⟨r1, f6_, h7_⟩ := pullD_elim h4_
  replace f6_ := m_49_ok f6_
  by_cases b8_ : r1 ≠ (0 : Int)
  · have h9_ := (if_pos b8_).symm.trans h7_
    obtain rfl := Option.some.inj h9_
    exact con_pc (op := true) (I := [14]) (sp := rulesErr_sp) 3000 (bF 1 (bT 1 [])) [.one (.bool r0), iD r1] [c_nn b5_, c_b b8_] [k_c f1_, k_c f6_] (by kernel_rfl)
  have h9_ := (if_neg b8_).symm.trans h7_
  have b10_ : r1 = (0 : Int) := by first | exact b8_ | simpa using b8_
  by_cases b11_ : (k : Int) > (4 : Int)
  · have h12_ := (if_pos b11_).symm.trans h9_
    obtain rfl := Option.some.inj h12_
    exact con_pc (op := true) (I := [14]) (sp := rulesErr_sp) 3000 (bF 2 (bT 1 [])) [.one (.bool r0), iD r1] [c_nn b5_, c_bn b10_, c_d b11_] [k_c f1_, k_c f6_] (by kernel_rfl)
  have h12_ := (if_neg b11_).symm.trans h9_
  obtain ⟨j, ds, e13_, h14_⟩ := bindL_elim h12_
  by_cases j15_ : j = 0
  · have h18_ := (if_pos j15_).symm.trans h14_
    clear h14_
    subst j15_
    obtain ⟨⟨⟩, e16_, h19_⟩ := pullD_elim h18_
    clear h18_
    obtain rfl := tup_inj e16_
    have k17_ := rulesErr_L9_in0 re fa fb fc fd k c r0 r1 e13_
    obtain rfl := Option.some.inj h19_
    exact con_pc (op := true) (I := [14]) (sp := rulesErr_sp) 3000 (bF 3 []) [.one (.bool r0), iD r1, .tup [iD (Int.ofNat 0)]] [c_nn b5_, c_bn b10_, c_n b11_] [k_c f1_, k_c f6_, k_l k17_ [] [.tup [iD (Int.ofNat 0)]] []] (by kernel_rfl)
  have h20_ := (if_neg j15_).symm.trans h14_
  clear h14_
  by_cases j21_ : j = 1
  · have h24_ := (if_pos j21_).symm.trans h20_
    clear h20_
    subst j21_
    obtain ⟨l2, e22_, h25_⟩ := pullD_elim h24_
    clear h24_
    obtain rfl := tup_inj e22_
    have k23_ := rulesErr_L9_in1 re fa fb fc fd k c r0 r1 e13_
    obtain rfl := Option.some.inj h25_
    exact con_pc (op := true) (I := [14]) (sp := rulesErr_sp) 3000 (bF 3 []) [.one (.bool r0), iD r1, .tup [iD (Int.ofNat 1), iD l2]] [c_nn b5_, c_bn b10_, c_n b11_] [k_c f1_, k_c f6_, k_l k23_ [] [.tup [iD (Int.ofNat 1), iD l2]] []] (by kernel_rfl)
  have h26_ := (if_neg j21_).symm.trans h20_
  clear h20_
  cases h26_
def m_14 (ds : List D) : Option D := pullD (α := Int × Int × Int × Int × Int × Nat × (List D)) (some (.tup ds)) (fun d => ((D.vi (D.at (D.at d 0) 0)), (D.vi (D.at (D.at d 0) 1)), (D.vi (D.at (D.at d 0) 2)), (D.vi (D.at (D.at d 0) 3)), (D.vi (D.at (D.at d 0) 4)), (D.ln (D.at (D.at d 0) 5)), (D.lc (D.at (D.at d 0) 5)))) (fun (re, fa, fb, fc, fd, k, c) => .tup [.agg [iD re, iD fa, iD fb, iD fc, iD fd, .list k c]]) fun (re, fa, fb, fc, fd, k, c) => rulesErr_M re fa fb fc fd k c
theorem m_14_ok {ds : List D} {r : D} (h : m_14 ds = some r) : Con 14 ds r := by
  unfold m_14 at h
  obtain ⟨⟨re, fa, fb, fc, fd, k, c⟩, e0, h0⟩ := pullD_elim h
  obtain rfl := tup_inj e0
  exact rulesErr_M_ok re fa fb fc fd k c h0
theorem m_14_eq (re fa fb fc fd : Int) (k : Nat) (c : List D) : m_14 [.agg [iD re, iD fa, iD fb, iD fc, iD fd, .list k c]] = rulesErr_M re fa fb fc fd k c := pullD_some (re, fa, fb, fc, fd, k, c) rfl rfl
def copyInts_sp : List LSpec := []
def copyInts_M (k : Nat) (c : List D) : Option D := guardP ((∀ (u : D), u ∈ c → cellD u) ∧ 0 ≤ 0 ∧ (0 + k) * 8 ≤ 140737488355328 ∧ 0 + k ≤ 4611686018427387904) (guardP (c.length = k * 1) (guardP ((0 + (0 + k)) * 1 ≤ (List.take (0 * 1) [] ++ c).length ∧ 0 < 1) (some (.list (0 + k) c))))
theorem copyInts_M_ok (k : Nat) (c : List D) {r : D} (h : copyInts_M k c = some r) : Con 56 [.list k c] r := by
  unfold copyInts_M at h
  obtain ⟨f1_, h2_⟩ := guardP_elim h
  obtain ⟨f3_, h4_⟩ := guardP_elim h2_
  obtain ⟨f5_, h6_⟩ := guardP_elim h4_
  obtain rfl := Option.some.inj h6_
  exact con_pc (op := true) (I := [56]) (sp := copyInts_sp) 3000 [] [] [c_f f1_, c_f f3_, c_f f5_] [] (by kernel_rfl)
def m_56 (ds : List D) : Option D := pullD (α := Nat × (List D)) (some (.tup ds)) (fun d => ((D.ln (D.at d 0)), (D.lc (D.at d 0)))) (fun (k, c) => .tup [.list k c]) fun (k, c) => copyInts_M k c
theorem m_56_ok {ds : List D} {r : D} (h : m_56 ds = some r) : Con 56 ds r := by
  unfold m_56 at h
  obtain ⟨⟨k, c⟩, e0, h0⟩ := pullD_elim h
  obtain rfl := tup_inj e0
  exact copyInts_M_ok k c h0
theorem m_56_eq (k : Nat) (c : List D) : m_56 [.list k c] = copyInts_M k c := pullD_some (k, c) rfl rfl
def copyRecord_sp : List LSpec := []
def copyRecord_M (st : Int) (kb : Nat) (cb : List D) : Option D := pullD (α := Nat × (List D)) (m_56 [.list kb cb]) (fun d => ((D.ln d), (D.lc d))) (fun (k0, c1) => .list k0 c1) fun (k0, c1) => (some (.agg [iD st, .list k0 c1]))
theorem copyRecord_M_ok (st : Int) (kb : Nat) (cb : List D) {r : D} (h : copyRecord_M st kb cb = some r) : Con 17 [.agg [iD st, .list kb cb]] r := by
  unfold copyRecord_M at h
  obtain ⟨⟨k0, c1⟩, f1_, h2_⟩ := pullD_elim h
  replace f1_ := m_56_ok f1_
  obtain rfl := Option.some.inj h2_
  exact con_pc (op := true) (I := [17]) (sp := copyRecord_sp) 3000 [] [.list k0 c1] [] [k_c f1_] (by kernel_rfl)
def m_17 (ds : List D) : Option D := pullD (α := Int × Nat × (List D)) (some (.tup ds)) (fun d => ((D.vi (D.at (D.at d 0) 0)), (D.ln (D.at (D.at d 0) 1)), (D.lc (D.at (D.at d 0) 1)))) (fun (st, kb, cb) => .tup [.agg [iD st, .list kb cb]]) fun (st, kb, cb) => copyRecord_M st kb cb
theorem m_17_ok {ds : List D} {r : D} (h : m_17 ds = some r) : Con 17 ds r := by
  unfold m_17 at h
  obtain ⟨⟨st, kb, cb⟩, e0, h0⟩ := pullD_elim h
  obtain rfl := tup_inj e0
  exact copyRecord_M_ok st kb cb h0
theorem m_17_eq (st : Int) (kb : Nat) (cb : List D) : m_17 [.agg [iD st, .list kb cb]] = copyRecord_M st kb cb := pullD_some (st, kb, cb) rfl rfl
def copyRules_sp : List LSpec := []
def copyRules_M (re fa fb fc fd : Int) (k : Nat) (c : List D) : Option D := guardP (k * 32 ≤ 140737488355328 ∧ k ≤ 4611686018427387904) (guardP (c.length = k * 4) (some (.agg [iD re, iD fa, iD fb, iD fc, iD fd, .list k c])))
theorem copyRules_M_ok (re fa fb fc fd : Int) (k : Nat) (c : List D) {r : D} (h : copyRules_M re fa fb fc fd k c = some r) : Con 13 [.agg [iD re, iD fa, iD fb, iD fc, iD fd, .list k c]] r := by
  unfold copyRules_M at h
  obtain ⟨f1_, h2_⟩ := guardP_elim h
  obtain ⟨f3_, h4_⟩ := guardP_elim h2_
  obtain rfl := Option.some.inj h4_
  exact con_pc (op := true) (I := [13]) (sp := copyRules_sp) 3000 [] [] [c_f f1_, c_f f3_] [] (by kernel_rfl)
def m_13 (ds : List D) : Option D := pullD (α := Int × Int × Int × Int × Int × Nat × (List D)) (some (.tup ds)) (fun d => ((D.vi (D.at (D.at d 0) 0)), (D.vi (D.at (D.at d 0) 1)), (D.vi (D.at (D.at d 0) 2)), (D.vi (D.at (D.at d 0) 3)), (D.vi (D.at (D.at d 0) 4)), (D.ln (D.at (D.at d 0) 5)), (D.lc (D.at (D.at d 0) 5)))) (fun (re, fa, fb, fc, fd, k, c) => .tup [.agg [iD re, iD fa, iD fb, iD fc, iD fd, .list k c]]) fun (re, fa, fb, fc, fd, k, c) => copyRules_M re fa fb fc fd k c
theorem m_13_ok {ds : List D} {r : D} (h : m_13 ds = some r) : Con 13 ds r := by
  unfold m_13 at h
  obtain ⟨⟨re, fa, fb, fc, fd, k, c⟩, e0, h0⟩ := pullD_elim h
  obtain rfl := tup_inj e0
  exact copyRules_M_ok re fa fb fc fd k c h0
theorem m_13_eq (re fa fb fc fd : Int) (k : Nat) (c : List D) : m_13 [.agg [iD re, iD fa, iD fb, iD fc, iD fd, .list k c]] = copyRules_M re fa fb fc fd k c := pullD_some (re, fa, fb, fc, fd, k, c) rfl rfl
def chkCount_sp : List LSpec := []
def chkCount_M (n : Int) : Option D := (if n < (3 : Int) then some (iD (10 : Int)) else (if n > (64 : Int) then some (iD (8 : Int)) else some (iD (0 : Int))))
theorem chkCount_M_ok (n : Int) {r : D} (h : chkCount_M n = some r) : Con 54 [iD n] r := by
  unfold chkCount_M at h
  by_cases b1_ : n < (3 : Int)
  · have h2_ := (if_pos b1_).symm.trans h
    obtain rfl := Option.some.inj h2_
    exact con_pc (op := true) (I := [54]) (sp := chkCount_sp) 3000 (bT 1 []) [] [c_d b1_] [] (by kernel_rfl)
  have h2_ := (if_neg b1_).symm.trans h
  by_cases b3_ : n > (64 : Int)
  · have h4_ := (if_pos b3_).symm.trans h2_
    obtain rfl := Option.some.inj h4_
    exact con_pc (op := true) (I := [54]) (sp := chkCount_sp) 3000 (bF 1 (bT 1 [])) [] [c_n b1_, c_d b3_] [] (by kernel_rfl)
  have h4_ := (if_neg b3_).symm.trans h2_
  obtain rfl := Option.some.inj h4_
  exact con_pc (op := true) (I := [54]) (sp := chkCount_sp) 3000 (bF 2 []) [] [c_n b1_, c_n b3_] [] (by kernel_rfl)
def m_54 (ds : List D) : Option D := pullD (α := Int) (some (.tup ds)) (fun d => ((D.vi (D.at d 0)))) (fun n => .tup [iD n]) fun n => chkCount_M n
theorem m_54_ok {ds : List D} {r : D} (h : m_54 ds = some r) : Con 54 ds r := by
  unfold m_54 at h
  obtain ⟨n, e0, h0⟩ := pullD_elim h
  obtain rfl := tup_inj e0
  exact chkCount_M_ok n h0
theorem m_54_eq (n : Int) : m_54 [iD n] = chkCount_M n := pullD_some n rfl rfl
def chkRecord_x97_2_0 : LExit := ⟨some 0, [], (4 :: (6 :: (List.range' 9 13)))⟩
def chkRecord_x97_2_1 : LExit := ⟨none, [.val 4], (6 :: (List.range' 9 13))⟩
def chkRecord_sp : List LSpec := [⟨97, 2, [chkRecord_x97_2_0, chkRecord_x97_2_1]⟩]
def chkRecord_L97_2_E (st : Int) (kb : Nat) (cb : List D) (x0 : Int) (x1 : Int) : List AV × AHeap := ([.dsl 0, .ptr 3 0, .ptr 4 0, .pure (.tuple #[]), .pure (.int .i64 (0 : Int)), .pure (.tuple #[]), .pure (.tuple #[]), .dsl 0, .pure (.int .i64 (kb : Int)), .pure (.int .i64 (0 : Int)), .pure (.tuple #[]), .pure (.tuple #[]), .pure (.tuple #[]), .pure (.tuple #[]), .pure (.tuple #[]), .pure (.tuple #[]), .pure (.tuple #[]), .pure (.tuple #[]), .pure (.tuple #[]), .pure (.tuple #[]), .pure (.tuple #[]), .pure (.tuple #[])], [(4, { cells := [.pure (.int .i64 (4096 : Int))], opn := none, kind := .cells }), (3, { cells := [.pure (.int .i64 (-4096 : Int))], opn := none, kind := .cells }), (2, { cells := [.pure (.int .i64 x0), .pure (.int .i64 x1)], opn := none, kind := .cells }), (1, { cells := [.pure (.int .i64 st), .dsl 0], opn := none, kind := .cells }), (0, { cells := [], opn := none, kind := .deep kb cb })])
def chkRecord_L97_2_A : LoopAt := ⟨97, loopAt Try.prog 97 0, 5, 20, 5, noFrame⟩
theorem chkRecord_L97_2_ok : (chkRecord_L97_2_A).OK := ⟨by show 5 ≤ 20; decide, by show 5 ≤ 5; decide, by kernel_rfl, rfl⟩
def chkRecord_L97_2_gs (st : Int) (kb : Nat) (cb : List D) (x0 : Int) (x1 : Int) : Go.Ev.Rd → Option GS
  | .next 0 ds => ghost [.val 9] (4 :: (6 :: (List.range' 10 12))) (chkRecord_L97_2_E st kb cb x0 x1).1 (chkRecord_L97_2_E st kb cb x0 x1).2 5 ds
  | .out 0 ds => ghost chkRecord_x97_2_0.live chkRecord_x97_2_0.junk (chkRecord_L97_2_E st kb cb x0 x1).1 (chkRecord_L97_2_E st kb cb x0 x1).2 5 ds
  | .out 1 ds => ghost chkRecord_x97_2_1.live chkRecord_x97_2_1.junk (chkRecord_L97_2_E st kb cb x0 x1).1 (chkRecord_L97_2_E st kb cb x0 x1).2 5 ds
  | _ => none
def chkRecord_L97_2_ex : Nat → Option Nat
  | 0 => chkRecord_x97_2_0.ex
  | 1 => chkRecord_x97_2_1.ex
  | _ => none
def chkRecord_L97_2_ax : Go.Ev.Rd → AX
  | .next _ _ => .normal
  | .out j _ => axOf (chkRecord_L97_2_ex j)
def chkRecord_L97_2_S0 (st : Int) (kb : Nat) (cb : List D) (x0 : Int) (x1 : Int) (ds : List D) : Option Go.Ev.Rd := pullD (α := Int) (some (.tup ds)) (fun d => ((D.vi (D.at d 0)))) (fun s9 => .tup [iD s9]) fun s9 => ((if s9 < (kb : Int) then guardP ((0 : Int) ≤ s9 ∧ s9.toNat < kb) (pullD (α := Int) (readD cb (s9.toNat * 1) 1 false) (fun d => ((D.vi d))) (fun v0 => iD v0) fun v0 => ((if v0 < (-4096 : Int) then some (.out 1 [iD (2 : Int)]) else (if v0 > (4096 : Int) then some (.out 1 [iD (2 : Int)]) else some (.next 0 [iD (IntKind.i64.wrap (s9 + (1 : Int)))]))))) else some (.out 0 [])))
def chkRecord_L97_2_S (st : Int) (kb : Nat) (cb : List D) (x0 : Int) (x1 : Int) : Go.Ev.Rd → Option Go.Ev.Rd
  | .next 0 ds => chkRecord_L97_2_S0 st kb cb x0 x1 ds
  | _ => none
theorem chkRecord_L97_2_S_0 (st : Int) (kb : Nat) (cb : List D) (x0 : Int) (x1 : Int) (ds : List D) : chkRecord_L97_2_S st kb cb x0 x1 (.next 0 ds) = chkRecord_L97_2_S0 st kb cb x0 x1 ds := rfl
theorem chkRecord_L97_2_S_ok (st : Int) (kb : Nat) (cb : List D) (x0 : Int) (x1 : Int) : ∀ s_ t_, chkRecord_L97_2_S st kb cb x0 x1 s_ = some t_ → Step (ctx [16, 55, 63, 97] chkRecord_sp) Tabs chkRecord_L97_2_A (stateOf (chkRecord_L97_2_gs st kb cb x0 x1 s_)) (stateOf (chkRecord_L97_2_gs st kb cb x0 x1 t_)) (chkRecord_L97_2_ax t_) ∧ EndOK chkRecord_L97_2_A.nx chkRecord_L97_2_A.low (chkRecord_L97_2_gs st kb cb x0 x1) t_
  | .next 0 ds, t_, h => by
    have h_ : chkRecord_L97_2_S0 st kb cb x0 x1 ds = some t_ := h
    clear h
    unfold chkRecord_L97_2_S0 at h_
    obtain ⟨s9, e0, h0⟩ := pullD_elim h_
    clear h_
    obtain rfl := tup_inj e0
    by_cases b1_ : s9 < (kb : Int)
    · have h2_ := (if_pos b1_).symm.trans h0
      obtain ⟨f3_, h4_⟩ := guardP_elim h2_
      obtain ⟨v0, f5_, h6_⟩ := pullD_elim h4_
      replace f5_ := readD_elim f5_
      by_cases b7_ : v0 < (-4096 : Int)
      · have h8_ := (if_pos b7_).symm.trans h6_
        obtain rfl := Option.some.inj h8_
        exact ⟨step_pc 3000 (bT 6 []) [iD v0] [c_d b1_, c_f f3_, c_f f5_, c_d b7_, c_d b7_, c_d b7_, c_d b7_, c_T] [] _ rfl (by kernel_rfl) (by kernel_rfl) (by kernel_rfl) (by kernel_rfl) (by kernel_rfl) (by kernel_rfl), by kernel_rfl, by kernel_rfl⟩
      have h8_ := (if_neg b7_).symm.trans h6_
      by_cases b9_ : v0 > (4096 : Int)
      · have h10_ := (if_pos b9_).symm.trans h8_
        obtain rfl := Option.some.inj h10_
        exact ⟨step_pc 3000 (bT 1 (bF 4 (bT 1 []))) [iD v0] [c_d b1_, c_f f3_, c_f f5_, c_n b7_, c_n b7_, c_n b7_, c_n b7_, c_d b9_] [] _ rfl (by kernel_rfl) (by kernel_rfl) (by kernel_rfl) (by kernel_rfl) (by kernel_rfl) (by kernel_rfl), by kernel_rfl, by kernel_rfl⟩
      have h10_ := (if_neg b9_).symm.trans h8_
      obtain rfl := Option.some.inj h10_
      exact ⟨step_pc 3000 (bT 1 (bF 5 [])) [iD v0] [c_d b1_, c_f f3_, c_f f5_, c_n b7_, c_n b7_, c_n b7_, c_n b7_, c_n b9_] [] _ rfl (by kernel_rfl) (by kernel_rfl) (by kernel_rfl) (by kernel_rfl) (by kernel_rfl) (by kernel_rfl), trivial⟩
    have h2_ := (if_neg b1_).symm.trans h0
    obtain rfl := Option.some.inj h2_
    exact ⟨step_pc 3000 (bF 1 []) [] [c_n b1_] [] _ rfl (by kernel_rfl) (by kernel_rfl) (by kernel_rfl) (by kernel_rfl) (by kernel_rfl) (by kernel_rfl), by kernel_rfl, by kernel_rfl⟩
  | .next (_ + 1) _, _, h => by cases h
  | .out _ _, _, h => by cases h
theorem chkRecord_L97_2_go (st : Int) (kb : Nat) (cb : List D) (x0 : Int) (x1 : Int) {q : Nat} {ds : List D} {j : Nat} {es : List D} (h : runR (chkRecord_L97_2_S st kb cb x0 x1) (.next q ds) = some (.out j es)) : Runs (ctx [16, 55, 63, 97] chkRecord_sp) Tabs chkRecord_L97_2_A (stateOf (chkRecord_L97_2_gs st kb cb x0 x1 (.next q ds))) (stateOf (chkRecord_L97_2_gs st kb cb x0 x1 (.out j es))) (chkRecord_L97_2_ax (.out j es)) ∧ (nxtOf (chkRecord_L97_2_gs st kb cb x0 x1 (.out j es)), lowGS (chkRecord_L97_2_gs st kb cb x0 x1 (.out j es))) = (chkRecord_L97_2_A.nx, chkRecord_L97_2_A.low) :=
  runs_of' (good true _ _) chkRecord_L97_2_ok (ax := chkRecord_L97_2_ax) (fun _ _ => rfl) (fun _ _ => axOf_end _) (chkRecord_L97_2_S_ok st kb cb x0 x1) h
theorem chkRecord_L97_2_in0 (st : Int) (kb : Nat) (cb : List D) (x0 : Int) (x1 : Int) {es : List D} (h : runR (chkRecord_L97_2_S st kb cb x0 x1) (.next 0 [iD ((0 : Int))]) = some (.out 0 es)) : LoopC (loopAt Try.prog 97 0) (chkRecord_L97_2_E st kb cb x0 x1) 5 noFrame chkRecord_x97_2_0 es :=
  have r := chkRecord_L97_2_go st kb cb x0 x1 h
  loopin_as rfl (loop_in (l := chkRecord_L97_2_A) (E := (chkRecord_L97_2_E st kb cb x0 x1)) (S := stateOf (chkRecord_L97_2_gs st kb cb x0 x1 (.next 0 [iD ((0 : Int))]))) (ns := nsOf (chkRecord_L97_2_gs st kb cb x0 x1 (.next 0 [iD ((0 : Int))]))) chkRecord_L97_2_ok r.1 r.2 (by kernel_rfl) (by kernel_rfl) (by kernel_rfl) (by kernel_rfl))
theorem chkRecord_L97_2_in1 (st : Int) (kb : Nat) (cb : List D) (x0 : Int) (x1 : Int) {es : List D} (h : runR (chkRecord_L97_2_S st kb cb x0 x1) (.next 0 [iD ((0 : Int))]) = some (.out 1 es)) : LoopC (loopAt Try.prog 97 0) (chkRecord_L97_2_E st kb cb x0 x1) 5 noFrame chkRecord_x97_2_1 es :=
  have r := chkRecord_L97_2_go st kb cb x0 x1 h
  loopin_as rfl (loop_in (l := chkRecord_L97_2_A) (E := (chkRecord_L97_2_E st kb cb x0 x1)) (S := stateOf (chkRecord_L97_2_gs st kb cb x0 x1 (.next 0 [iD ((0 : Int))]))) (ns := nsOf (chkRecord_L97_2_gs st kb cb x0 x1 (.next 0 [iD ((0 : Int))]))) chkRecord_L97_2_ok r.1 r.2 (by kernel_rfl) (by kernel_rfl) (by kernel_rfl) (by kernel_rfl))
def chkRecord_M (st : Int) (kb : Nat) (cb : List D) : Option D := pullD (α := Int) (m_53 [iD st]) (fun d => ((D.vi d))) (fun r0 => iD r0) fun r0 => (pullD (α := Int) (m_54 [iD (kb : Int)]) (fun d => ((D.vi d))) (fun r1 => iD r1) fun r1 => (pullD (α := Int) (m_50 [.list 2 [iD r0, iD r1]]) (fun d => ((D.vi d))) (fun r2 => iD r2) fun r2 => ((if r2 ≠ (0 : Int) then some (iD r2) else bindL (runR (chkRecord_L97_2_S st kb cb r0 r1) (.next 0 [iD ((0 : Int))])) fun j ds => (if j = 0 then pullD (some (.tup ds)) (fun _ => ()) (fun _ => .tup []) fun _ => (some (iD (0 : Int))) else if j = 1 then pullD (α := Int) (some (.tup ds)) (fun d => ((D.vi (D.at d 0)))) (fun l3 => .tup [iD l3]) fun l3 => (some (iD l3)) else none)))))
theorem chkRecord_M_ok (st : Int) (kb : Nat) (cb : List D) {r : D} (h : chkRecord_M st kb cb = some r) : Con 16 [.agg [iD st, .list kb cb]] r := by
  unfold chkRecord_M at h
  obtain ⟨r0, f1_, h2_⟩ := pullD_elim h
  replace f1_ := m_53_ok f1_
  obtain ⟨r1, f3_, h4_⟩ := pullD_elim h2_
  replace f3_ := m_54_ok f3_
  obtain ⟨r2, f5_, h6_⟩ := pullD_elim h4_
  replace f5_ := m_50_ok f5_
  by_cases b7_ : r2 ≠ (0 : Int)
  · have h8_ := (if_pos b7_).symm.trans h6_
    obtain rfl := Option.some.inj h8_
    exact con_pc (op := true) (I := [16, 55, 63, 97]) (sp := chkRecord_sp) 3000 (bT 1 []) [iD r0, iD r1, iD r2] [c_le 1, c_b b7_] [k_c f1_, k_c f3_, k_c f5_] (by kernel_rfl)
  have h8_ := (if_neg b7_).symm.trans h6_
  have b9_ : r2 = (0 : Int) := by first | exact b7_ | simpa using b7_
  obtain ⟨j, ds, e10_, h11_⟩ := bindL_elim h8_
  by_cases j12_ : j = 0
  · have h15_ := (if_pos j12_).symm.trans h11_
    clear h11_
    subst j12_
    obtain ⟨⟨⟩, e13_, h16_⟩ := pullD_elim h15_
    clear h15_
    obtain rfl := tup_inj e13_
    have k14_ := chkRecord_L97_2_in0 st kb cb r0 r1 e10_
    obtain rfl := Option.some.inj h16_
    exact con_pc (op := true) (I := [16, 55, 63, 97]) (sp := chkRecord_sp) 3000 (bF 1 []) [iD r0, iD r1, iD r2, .tup [iD (Int.ofNat 0)]] [c_le 1, c_bn b9_] [k_c f1_, k_c f3_, k_c f5_, k_l k14_ [] [.tup [iD (Int.ofNat 0)]] []] (by kernel_rfl)
  have h17_ := (if_neg j12_).symm.trans h11_
  clear h11_
  by_cases j18_ : j = 1
  · have h21_ := (if_pos j18_).symm.trans h17_
    clear h17_
    subst j18_
    obtain ⟨l3, e19_, h22_⟩ := pullD_elim h21_
    clear h21_
    obtain rfl := tup_inj e19_
    have k20_ := chkRecord_L97_2_in1 st kb cb r0 r1 e10_
    obtain rfl := Option.some.inj h22_
    exact con_pc (op := true) (I := [16, 55, 63, 97]) (sp := chkRecord_sp) 3000 (bF 1 []) [iD r0, iD r1, iD r2, .tup [iD (Int.ofNat 1), iD l3]] [c_le 1, c_bn b9_] [k_c f1_, k_c f3_, k_c f5_, k_l k20_ [] [.tup [iD (Int.ofNat 1), iD l3]] []] (by kernel_rfl)
  have h23_ := (if_neg j18_).symm.trans h17_
  clear h17_
  cases h23_
def m_16 (ds : List D) : Option D := pullD (α := Int × Nat × (List D)) (some (.tup ds)) (fun d => ((D.vi (D.at (D.at d 0) 0)), (D.ln (D.at (D.at d 0) 1)), (D.lc (D.at (D.at d 0) 1)))) (fun (st, kb, cb) => .tup [.agg [iD st, .list kb cb]]) fun (st, kb, cb) => chkRecord_M st kb cb
theorem m_16_ok {ds : List D} {r : D} (h : m_16 ds = some r) : Con 16 ds r := by
  unfold m_16 at h
  obtain ⟨⟨st, kb, cb⟩, e0, h0⟩ := pullD_elim h
  obtain rfl := tup_inj e0
  exact chkRecord_M_ok st kb cb h0
theorem m_16_eq (st : Int) (kb : Nat) (cb : List D) : m_16 [.agg [iD st, .list kb cb]] = chkRecord_M st kb cb := pullD_some (st, kb, cb) rfl rfl
def recErr_x8_0 : LExit := ⟨some 0, [], (2 :: (3 :: (List.range' 16 14)))⟩
def recErr_x8_1 : LExit := ⟨none, [.val 2], (3 :: (List.range' 16 14))⟩
def recErr_sp : List LSpec := [⟨18, 8, [recErr_x8_0, recErr_x8_1]⟩]
def recErr_L8_E (st : Int) (kb : Nat) (cb : List D) (x0 : Bool) : List AV × AHeap := ([.agg [.pure (.int .i64 st), .dsl 0], .ptr 1 0, .pure (.int .i64 (0 : Int)), .pure (.int .i64 (0 : Int)), .ptr 1 0, .pure (.int .i64 st), .pure (.bool x0), .pure (.bool !x0), .ptr 1 1, .dsl 0, .pure (.int .i64 (kb : Int)), .pure (.bool (decide ((kb : Int) < (3 : Int)))), .ptr 1 1, .dsl 0, .pure (.int .i64 (kb : Int)), .pure (.bool (decide ((kb : Int) > (64 : Int)))), .pure (.tuple #[]), .pure (.tuple #[]), .pure (.tuple #[]), .pure (.tuple #[]), .pure (.tuple #[]), .pure (.tuple #[]), .pure (.tuple #[]), .pure (.tuple #[]), .pure (.tuple #[]), .pure (.tuple #[]), .pure (.tuple #[]), .pure (.tuple #[]), .pure (.tuple #[]), .pure (.tuple #[])], [(1, { cells := [.pure (.int .i64 st), .dsl 0], opn := none, kind := .cells }), (0, { cells := [], opn := none, kind := .deep kb cb })])
def recErr_L8_A : LoopAt := ⟨18, loopAt Try.prog 18 0, 2, 18, 2, noFrame⟩
theorem recErr_L8_ok : (recErr_L8_A).OK := ⟨by show 2 ≤ 18; decide, by show 2 ≤ 2; decide, by kernel_rfl, rfl⟩
def recErr_L8_gs (st : Int) (kb : Nat) (cb : List D) (x0 : Bool) : Go.Ev.Rd → Option GS
  | .next 0 ds => ghost [.val 3] (2 :: (List.range' 16 14)) (recErr_L8_E st kb cb x0).1 (recErr_L8_E st kb cb x0).2 2 ds
  | .out 0 ds => ghost recErr_x8_0.live recErr_x8_0.junk (recErr_L8_E st kb cb x0).1 (recErr_L8_E st kb cb x0).2 2 ds
  | .out 1 ds => ghost recErr_x8_1.live recErr_x8_1.junk (recErr_L8_E st kb cb x0).1 (recErr_L8_E st kb cb x0).2 2 ds
  | _ => none
def recErr_L8_ex : Nat → Option Nat
  | 0 => recErr_x8_0.ex
  | 1 => recErr_x8_1.ex
  | _ => none
def recErr_L8_ax : Go.Ev.Rd → AX
  | .next _ _ => .normal
  | .out j _ => axOf (recErr_L8_ex j)
def recErr_L8_S0 (st : Int) (kb : Nat) (cb : List D) (x0 : Bool) (ds : List D) : Option Go.Ev.Rd := pullD (α := Int) (some (.tup ds)) (fun d => ((D.vi (D.at d 0)))) (fun s3 => .tup [iD s3]) fun s3 => ((if s3 < (kb : Int) then guardP ((0 : Int) ≤ s3 ∧ s3.toNat < kb) (pullD (α := Int) (readD cb (s3.toNat * 1) 1 false) (fun d => ((D.vi d))) (fun v0 => iD v0) fun v0 => (pullD (α := Bool) (m_24 [iD v0, iD (-4096 : Int), iD (4096 : Int)]) (fun d => ((D.vb d))) (fun r1 => .one (.bool r1)) fun r1 => ((if r1 = false then some (.out 1 [iD (2 : Int)]) else some (.next 0 [iD (IntKind.i64.wrap (s3 + (1 : Int)))]))))) else some (.out 0 [])))
def recErr_L8_S (st : Int) (kb : Nat) (cb : List D) (x0 : Bool) : Go.Ev.Rd → Option Go.Ev.Rd
  | .next 0 ds => recErr_L8_S0 st kb cb x0 ds
  | _ => none
theorem recErr_L8_S_0 (st : Int) (kb : Nat) (cb : List D) (x0 : Bool) (ds : List D) : recErr_L8_S st kb cb x0 (.next 0 ds) = recErr_L8_S0 st kb cb x0 ds := rfl
theorem recErr_L8_S_ok (st : Int) (kb : Nat) (cb : List D) (x0 : Bool) : ∀ s_ t_, recErr_L8_S st kb cb x0 s_ = some t_ → Step (ctx [18] recErr_sp) Tabs recErr_L8_A (stateOf (recErr_L8_gs st kb cb x0 s_)) (stateOf (recErr_L8_gs st kb cb x0 t_)) (recErr_L8_ax t_) ∧ EndOK recErr_L8_A.nx recErr_L8_A.low (recErr_L8_gs st kb cb x0) t_
  | .next 0 ds, t_, h => by
    have h_ : recErr_L8_S0 st kb cb x0 ds = some t_ := h
    clear h
    unfold recErr_L8_S0 at h_
    obtain ⟨s3, e0, h0⟩ := pullD_elim h_
    clear h_
    obtain rfl := tup_inj e0
    by_cases b1_ : s3 < (kb : Int)
    · have h2_ := (if_pos b1_).symm.trans h0
      obtain ⟨f3_, h4_⟩ := guardP_elim h2_
      obtain ⟨v0, f5_, h6_⟩ := pullD_elim h4_
      replace f5_ := readD_elim f5_
      obtain ⟨r1, f7_, h8_⟩ := pullD_elim h6_
      replace f7_ := m_24_ok f7_
      by_cases b9_ : r1 = false
      · have h10_ := (if_pos b9_).symm.trans h8_
        obtain rfl := Option.some.inj h10_
        exact ⟨step_pc 3000 (bT 2 []) [iD v0, .one (.bool r1)] [c_d b1_, c_f f3_, c_f f5_, c_no b9_] [k_c f7_] _ rfl (by kernel_rfl) (by kernel_rfl) (by kernel_rfl) (by kernel_rfl) (by kernel_rfl) (by kernel_rfl), by kernel_rfl, by kernel_rfl⟩
      have h10_ := (if_neg b9_).symm.trans h8_
      have b11_ : r1 = true := by first | exact b9_ | simpa using b9_
      obtain rfl := Option.some.inj h10_
      exact ⟨step_pc 3000 (bT 1 (bF 1 [])) [iD v0, .one (.bool r1)] [c_d b1_, c_f f3_, c_f f5_, c_nn b11_] [k_c f7_] _ rfl (by kernel_rfl) (by kernel_rfl) (by kernel_rfl) (by kernel_rfl) (by kernel_rfl) (by kernel_rfl), trivial⟩
    have h2_ := (if_neg b1_).symm.trans h0
    obtain rfl := Option.some.inj h2_
    exact ⟨step_pc 3000 (bF 1 []) [] [c_n b1_] [] _ rfl (by kernel_rfl) (by kernel_rfl) (by kernel_rfl) (by kernel_rfl) (by kernel_rfl) (by kernel_rfl), by kernel_rfl, by kernel_rfl⟩
  | .next (_ + 1) _, _, h => by cases h
  | .out _ _, _, h => by cases h
theorem recErr_L8_go (st : Int) (kb : Nat) (cb : List D) (x0 : Bool) {q : Nat} {ds : List D} {j : Nat} {es : List D} (h : runR (recErr_L8_S st kb cb x0) (.next q ds) = some (.out j es)) : Runs (ctx [18] recErr_sp) Tabs recErr_L8_A (stateOf (recErr_L8_gs st kb cb x0 (.next q ds))) (stateOf (recErr_L8_gs st kb cb x0 (.out j es))) (recErr_L8_ax (.out j es)) ∧ (nxtOf (recErr_L8_gs st kb cb x0 (.out j es)), lowGS (recErr_L8_gs st kb cb x0 (.out j es))) = (recErr_L8_A.nx, recErr_L8_A.low) :=
  runs_of' (good true _ _) recErr_L8_ok (ax := recErr_L8_ax) (fun _ _ => rfl) (fun _ _ => axOf_end _) (recErr_L8_S_ok st kb cb x0) h
theorem recErr_L8_in0 (st : Int) (kb : Nat) (cb : List D) (x0 : Bool) {es : List D} (h : runR (recErr_L8_S st kb cb x0) (.next 0 [iD ((0 : Int))]) = some (.out 0 es)) : LoopC (loopAt Try.prog 18 0) (recErr_L8_E st kb cb x0) 2 noFrame recErr_x8_0 es :=
  have r := recErr_L8_go st kb cb x0 h
  loopin_as rfl (loop_in (l := recErr_L8_A) (E := (recErr_L8_E st kb cb x0)) (S := stateOf (recErr_L8_gs st kb cb x0 (.next 0 [iD ((0 : Int))]))) (ns := nsOf (recErr_L8_gs st kb cb x0 (.next 0 [iD ((0 : Int))]))) recErr_L8_ok r.1 r.2 (by kernel_rfl) (by kernel_rfl) (by kernel_rfl) (by kernel_rfl))
theorem recErr_L8_in1 (st : Int) (kb : Nat) (cb : List D) (x0 : Bool) {es : List D} (h : runR (recErr_L8_S st kb cb x0) (.next 0 [iD ((0 : Int))]) = some (.out 1 es)) : LoopC (loopAt Try.prog 18 0) (recErr_L8_E st kb cb x0) 2 noFrame recErr_x8_1 es :=
  have r := recErr_L8_go st kb cb x0 h
  loopin_as rfl (loop_in (l := recErr_L8_A) (E := (recErr_L8_E st kb cb x0)) (S := stateOf (recErr_L8_gs st kb cb x0 (.next 0 [iD ((0 : Int))]))) (ns := nsOf (recErr_L8_gs st kb cb x0 (.next 0 [iD ((0 : Int))]))) recErr_L8_ok r.1 r.2 (by kernel_rfl) (by kernel_rfl) (by kernel_rfl) (by kernel_rfl))
def recErr_M (st : Int) (kb : Nat) (cb : List D) : Option D := pullD (α := Bool) (m_24 [iD st, iD (1 : Int), iD (1000000 : Int)]) (fun d => ((D.vb d))) (fun r0 => .one (.bool r0)) fun r0 => ((if r0 = false then some (iD (2 : Int)) else (if (kb : Int) < (3 : Int) then some (iD (10 : Int)) else (if (kb : Int) > (64 : Int) then some (iD (8 : Int)) else bindL (runR (recErr_L8_S st kb cb r0) (.next 0 [iD ((0 : Int))])) fun j ds => (if j = 0 then pullD (some (.tup ds)) (fun _ => ()) (fun _ => .tup []) fun _ => (some (iD (0 : Int))) else if j = 1 then pullD (α := Int) (some (.tup ds)) (fun d => ((D.vi (D.at d 0)))) (fun l1 => .tup [iD l1]) fun l1 => (some (iD l1)) else none)))))
theorem recErr_M_ok (st : Int) (kb : Nat) (cb : List D) {r : D} (h : recErr_M st kb cb = some r) : Con 18 [.agg [iD st, .list kb cb]] r := by
  unfold recErr_M at h
  obtain ⟨r0, f1_, h2_⟩ := pullD_elim h
  replace f1_ := m_24_ok f1_
  by_cases b3_ : r0 = false
  · have h4_ := (if_pos b3_).symm.trans h2_
    obtain rfl := Option.some.inj h4_
    exact con_pc (op := true) (I := [18]) (sp := recErr_sp) 3000 (bT 1 []) [.one (.bool r0)] [c_no b3_] [k_c f1_] (by kernel_rfl)
  have h4_ := (if_neg b3_).symm.trans h2_
  have b5_ : r0 = true := by first | exact b3_ | simpa using b3_
  by_cases b6_ : (kb : Int) < (3 : Int)
  · have h7_ := (if_pos b6_).symm.trans h4_
    obtain rfl := Option.some.inj h7_
    exact con_pc (op := true) (I := [18]) (sp := recErr_sp) 3000 (bF 1 (bT 1 [])) [.one (.bool r0)] [c_nn b5_, c_d b6_] [k_c f1_] (by kernel_rfl)
  have h7_ := (if_neg b6_).symm.trans h4_
  by_cases b8_ : (kb : Int) > (64 : Int)
  · have h9_ := (if_pos b8_).symm.trans h7_
    obtain rfl := Option.some.inj h9_
    exact con_pc (op := true) (I := [18]) (sp := recErr_sp) 3000 (bF 2 (bT 1 [])) [.one (.bool r0)] [c_nn b5_, c_n b6_, c_d b8_] [k_c f1_] (by kernel_rfl)
  have h9_ := (if_neg b8_).symm.trans h7_
  obtain ⟨j, ds, e10_, h11_⟩ := bindL_elim h9_
  by_cases j12_ : j = 0
  · have h15_ := (if_pos j12_).symm.trans h11_
    clear h11_
    subst j12_
    obtain ⟨⟨⟩, e13_, h16_⟩ := pullD_elim h15_
    clear h15_
    obtain rfl := tup_inj e13_
    have k14_ := recErr_L8_in0 st kb cb r0 e10_
    obtain rfl := Option.some.inj h16_
    exact con_pc (op := true) (I := [18]) (sp := recErr_sp) 3000 (bF 3 []) [.one (.bool r0), .tup [iD (Int.ofNat 0)]] [c_nn b5_, c_n b6_, c_n b8_] [k_c f1_, k_l k14_ [] [.tup [iD (Int.ofNat 0)]] []] (by kernel_rfl)
  have h17_ := (if_neg j12_).symm.trans h11_
  clear h11_
  by_cases j18_ : j = 1
  · have h21_ := (if_pos j18_).symm.trans h17_
    clear h17_
    subst j18_
    obtain ⟨l1, e19_, h22_⟩ := pullD_elim h21_
    clear h21_
    obtain rfl := tup_inj e19_
    have k20_ := recErr_L8_in1 st kb cb r0 e10_
    obtain rfl := Option.some.inj h22_
    exact con_pc (op := true) (I := [18]) (sp := recErr_sp) 3000 (bF 3 []) [.one (.bool r0), .tup [iD (Int.ofNat 1), iD l1]] [c_nn b5_, c_n b6_, c_n b8_] [k_c f1_, k_l k20_ [] [.tup [iD (Int.ofNat 1), iD l1]] []] (by kernel_rfl)
  have h23_ := (if_neg j18_).symm.trans h17_
  clear h17_
  cases h23_
def m_18 (ds : List D) : Option D := pullD (α := Int × Nat × (List D)) (some (.tup ds)) (fun d => ((D.vi (D.at (D.at d 0) 0)), (D.ln (D.at (D.at d 0) 1)), (D.lc (D.at (D.at d 0) 1)))) (fun (st, kb, cb) => .tup [.agg [iD st, .list kb cb]]) fun (st, kb, cb) => recErr_M st kb cb
theorem m_18_ok {ds : List D} {r : D} (h : m_18 ds = some r) : Con 18 ds r := by
  unfold m_18 at h
  obtain ⟨⟨st, kb, cb⟩, e0, h0⟩ := pullD_elim h
  obtain rfl := tup_inj e0
  exact recErr_M_ok st kb cb h0
theorem m_18_eq (st : Int) (kb : Nat) (cb : List D) : m_18 [.agg [iD st, .list kb cb]] = recErr_M st kb cb := pullD_some (st, kb, cb) rfl rfl
def few_sp : List LSpec := []
def few_M (st : Int) (kb : Nat) (cb : List D) : Option D := some (.one (.bool (decide ((kb : Int) ≤ (70 : Int)))))
theorem few_M_ok (st : Int) (kb : Nat) (cb : List D) {r : D} (h : few_M st kb cb = some r) : Con 10 [.agg [iD st, .list kb cb]] r := by
  unfold few_M at h
  obtain rfl := Option.some.inj h
  exact con_pc (op := true) (I := [10]) (sp := few_sp) 3000 [] [] [] [] (by kernel_rfl)
def m_10 (ds : List D) : Option D := pullD (α := Int × Nat × (List D)) (some (.tup ds)) (fun d => ((D.vi (D.at (D.at d 0) 0)), (D.ln (D.at (D.at d 0) 1)), (D.lc (D.at (D.at d 0) 1)))) (fun (st, kb, cb) => .tup [.agg [iD st, .list kb cb]]) fun (st, kb, cb) => few_M st kb cb
theorem m_10_ok {ds : List D} {r : D} (h : m_10 ds = some r) : Con 10 ds r := by
  unfold m_10 at h
  obtain ⟨⟨st, kb, cb⟩, e0, h0⟩ := pullD_elim h
  obtain rfl := tup_inj e0
  exact few_M_ok st kb cb h0
theorem m_10_eq (st : Int) (kb : Nat) (cb : List D) : m_10 [.agg [iD st, .list kb cb]] = few_M st kb cb := pullD_some (st, kb, cb) rfl rfl
def fewF_sp : List LSpec := []
def fewF_M (re fa fb fc fd : Int) (k : Nat) (c : List D) : Option D := some (.one (.bool (decide ((k : Int) ≤ (6 : Int)))))
theorem fewF_M_ok (re fa fb fc fd : Int) (k : Nat) (c : List D) {r : D} (h : fewF_M re fa fb fc fd k c = some r) : Con 11 [.agg [iD re, iD fa, iD fb, iD fc, iD fd, .list k c]] r := by
  unfold fewF_M at h
  obtain rfl := Option.some.inj h
  exact con_pc (op := true) (I := [11]) (sp := fewF_sp) 3000 [] [] [] [] (by kernel_rfl)
def m_11 (ds : List D) : Option D := pullD (α := Int × Int × Int × Int × Int × Nat × (List D)) (some (.tup ds)) (fun d => ((D.vi (D.at (D.at d 0) 0)), (D.vi (D.at (D.at d 0) 1)), (D.vi (D.at (D.at d 0) 2)), (D.vi (D.at (D.at d 0) 3)), (D.vi (D.at (D.at d 0) 4)), (D.ln (D.at (D.at d 0) 5)), (D.lc (D.at (D.at d 0) 5)))) (fun (re, fa, fb, fc, fd, k, c) => .tup [.agg [iD re, iD fa, iD fb, iD fc, iD fd, .list k c]]) fun (re, fa, fb, fc, fd, k, c) => fewF_M re fa fb fc fd k c
theorem m_11_ok {ds : List D} {r : D} (h : m_11 ds = some r) : Con 11 ds r := by
  unfold m_11 at h
  obtain ⟨⟨re, fa, fb, fc, fd, k, c⟩, e0, h0⟩ := pullD_elim h
  obtain rfl := tup_inj e0
  exact fewF_M_ok re fa fb fc fd k c h0
theorem m_11_eq (re fa fb fc fd : Int) (k : Nat) (c : List D) : m_11 [.agg [iD re, iD fa, iD fb, iD fc, iD fd, .list k c]] = fewF_M re fa fb fc fd k c := pullD_some (re, fa, fb, fc, fd, k, c) rfl rfl
end
end Go.Proofs.Ytjjbacbjdilhmaa
namespace Go.Proofs.Ytjjbacbjdilhmaa
open Go.Ev Go.RowKit
set_option maxRecDepth 100000
set_option maxHeartbeats 8000000
set_option linter.all false
noncomputable section
abbrev shNK5B_0 (a0 : Int) (a1 : Int) (a2 : Int) (a3 : Int) : D := .agg [.one (.int .i64 a0), .one (.int .i64 a1), .one (.int .i64 a2), .one (.int .i64 a3)]
def shNK5B_0P (d : D) : Int × Int × Int × Int := (D.vi (D.at d 0), D.vi (D.at d 1), D.vi (D.at d 2), D.vi (D.at d 3))
def scaleOf_x7_0 : LExit := ⟨some 0, [.cval 6 0, .cval 6 1, .cval 6 2, .cval 6 3], (8 :: (List.range' 22 16))⟩
def scaleOf_sp : List LSpec := [⟨12, 7, [scaleOf_x7_0]⟩]
def scaleOf_L7_E (re fa fb fc fd : Int) (k : Nat) (c : List D) (x0 : Int) : List AV × AHeap := ([.agg [.pure (.int .i64 re), .pure (.int .i64 fa), .pure (.int .i64 fb), .pure (.int .i64 fc), .pure (.int .i64 fd), .dsl 0], .ptr 1 0, .ptr 2 0, .pure (.int .i64 (0 : Int)), .pure (.int .i64 x0), .ptr 3 0, .ptr 4 0, .pure (.tuple #[]), .pure (.tuple #[]), .agg [.pure (.int .i64 re), .pure (.int .i64 fa), .pure (.int .i64 fb), .pure (.int .i64 fc), .pure (.int .i64 fd), .dsl 0], .pure (.int .i64 x0), .pure (.int .i64 x0), .pure (.bool (x0 != (0 : Int))), .pure (.tuple #[]), .pure (.tuple #[]), .pure (.agg #[.int .i64 (1 : Int), .int .i64 (1 : Int)]), .pure (.agg #[.int .i64 (1 : Int), .int .i64 (1 : Int)]), .pure (.agg #[.int .i64 (1 : Int), .int .i64 (1 : Int)]), .pure (.agg #[.int .i64 (1 : Int), .int .i64 (1 : Int), .int .i64 (1 : Int), .int .i64 (1 : Int)]), .ptr 1 5, .dsl 0, .pure (.int .i64 (k : Int)), .pure (.int .i64 (0 : Int)), .pure (.tuple #[]), .pure (.tuple #[]), .pure (.tuple #[]), .pure (.tuple #[]), .pure (.tuple #[]), .pure (.tuple #[]), .pure (.tuple #[]), .pure (.tuple #[]), .pure (.tuple #[]), .pure (.tuple #[]), .pure (.tuple #[]), .pure (.tuple #[]), .pure (.tuple #[]), .pure (.tuple #[]), .pure (.tuple #[]), .pure (.tuple #[]), .pure (.tuple #[]), .pure (.tuple #[]), .pure (.tuple #[]), .pure (.tuple #[]), .pure (.tuple #[]), .pure (.tuple #[]), .pure (.tuple #[]), .pure (.tuple #[]), .pure (.tuple #[])], [(4, { cells := [.pure (.int .i64 (1 : Int)), .pure (.int .i64 (1 : Int)), .pure (.int .i64 (1 : Int)), .pure (.int .i64 (1 : Int))], opn := none, kind := .cells }), (3, { cells := [.pure (.int .i64 (1 : Int)), .pure (.int .i64 (1 : Int))], opn := none, kind := .cells }), (2, { cells := [.pure (.int .i64 (0 : Int)), .pure (.int .i64 (0 : Int)), .pure (.int .i64 (0 : Int)), .pure (.int .i64 (0 : Int))], opn := none, kind := .cells }), (1, { cells := [.pure (.int .i64 re), .pure (.int .i64 fa), .pure (.int .i64 fb), .pure (.int .i64 fc), .pure (.int .i64 fd), .dsl 0], opn := none, kind := .cells }), (0, { cells := [], opn := none, kind := .deep k c })])
def scaleOf_L7_A : LoopAt := ⟨12, loopAt Try.prog 12 0, 5, 26, 4, noFrame⟩
theorem scaleOf_L7_ok : (scaleOf_L7_A).OK := ⟨by show 5 ≤ 26; decide, by show 4 ≤ 5; decide, by kernel_rfl, rfl⟩
def scaleOf_L7_gs (re fa fb fc fd : Int) (k : Nat) (c : List D) (x0 : Int) : Go.Ev.Rd → Option GS
  | .next 0 ds => ghost [.val 22, .cval 6 0, .cval 6 1, .cval 6 2, .cval 6 3] (8 :: (List.range' 23 15)) (scaleOf_L7_E re fa fb fc fd k c x0).1 (scaleOf_L7_E re fa fb fc fd k c x0).2 5 ds
  | .out 0 ds => ghost scaleOf_x7_0.live scaleOf_x7_0.junk (scaleOf_L7_E re fa fb fc fd k c x0).1 (scaleOf_L7_E re fa fb fc fd k c x0).2 5 ds
  | _ => none
def scaleOf_L7_ex : Nat → Option Nat
  | 0 => scaleOf_x7_0.ex
  | _ => none
def scaleOf_L7_ax : Go.Ev.Rd → AX
  | .next _ _ => .normal
  | .out j _ => axOf (scaleOf_L7_ex j)
def scaleOf_L7_S0 (re fa fb fc fd : Int) (k : Nat) (c : List D) (x0 : Int) (ds : List D) : Option Go.Ev.Rd := pullD (α := Int × Int × Int × Int × Int) (some (.tup ds)) (fun d => ((D.vi (D.at d 0)), (D.vi (D.at d 1)), (D.vi (D.at d 2)), (D.vi (D.at d 3)), (D.vi (D.at d 4)))) (fun (s22, s6_0, s6_1, s6_2, s6_3) => .tup [iD s22, iD s6_0, iD s6_1, iD s6_2, iD s6_3]) fun (s22, s6_0, s6_1, s6_2, s6_3) => ((if s22 < (k : Int) then guardP ((0 : Int) ≤ s22 ∧ s22.toNat < k) (pullD (readD c (s22.toNat * 4) 4 true) shNK5B_0P (fun (v0, v1, v2, v3) => (shNK5B_0 v0 v1 v2 v3)) fun (v0, v1, v2, v3) => (pullD (α := Int × Int) (m_47 [.agg [iD s6_0, iD s6_1], .agg [iD v0, iD v1]]) (fun d => ((D.vi (D.at d 0)), (D.vi (D.at d 1)))) (fun (r4, r5) => .agg [iD r4, iD r5]) fun (r4, r5) => (pullD (α := Int × Int) (m_47 [.agg [iD s6_2, iD s6_3], .agg [iD v2, iD v3]]) (fun d => ((D.vi (D.at d 0)), (D.vi (D.at d 1)))) (fun (r6, r7) => .agg [iD r6, iD r7]) fun (r6, r7) => (some (.next 0 [iD (IntKind.i64.wrap (s22 + (1 : Int))), iD r4, iD r5, iD r6, iD r7]))))) else some (.out 0 [iD s6_0, iD s6_1, iD s6_2, iD s6_3])))
def scaleOf_L7_S (re fa fb fc fd : Int) (k : Nat) (c : List D) (x0 : Int) : Go.Ev.Rd → Option Go.Ev.Rd
  | .next 0 ds => scaleOf_L7_S0 re fa fb fc fd k c x0 ds
  | _ => none
theorem scaleOf_L7_S_0 (re fa fb fc fd : Int) (k : Nat) (c : List D) (x0 : Int) (ds : List D) : scaleOf_L7_S re fa fb fc fd k c x0 (.next 0 ds) = scaleOf_L7_S0 re fa fb fc fd k c x0 ds := rfl
theorem scaleOf_L7_S_ok (re fa fb fc fd : Int) (k : Nat) (c : List D) (x0 : Int) : ∀ s_ t_, scaleOf_L7_S re fa fb fc fd k c x0 s_ = some t_ → Step (ctx [12] scaleOf_sp) Tabs scaleOf_L7_A (stateOf (scaleOf_L7_gs re fa fb fc fd k c x0 s_)) (stateOf (scaleOf_L7_gs re fa fb fc fd k c x0 t_)) (scaleOf_L7_ax t_) ∧ EndOK scaleOf_L7_A.nx scaleOf_L7_A.low (scaleOf_L7_gs re fa fb fc fd k c x0) t_
  | .next 0 ds, t_, h => by
    have h_ : scaleOf_L7_S0 re fa fb fc fd k c x0 ds = some t_ := h
    clear h
    unfold scaleOf_L7_S0 at h_
    obtain ⟨⟨s22, s6_0, s6_1, s6_2, s6_3⟩, e0, h0⟩ := pullD_elim h_
    clear h_
    obtain rfl := tup_inj e0
    by_cases b1_ : s22 < (k : Int)
    · have h2_ := (if_pos b1_).symm.trans h0
      obtain ⟨f3_, h4_⟩ := guardP_elim h2_
      obtain ⟨⟨v0, v1, v2, v3⟩, f5_, h6_⟩ := pullD_elim h4_
      replace f5_ := readD_elim f5_
      obtain ⟨⟨r4, r5⟩, f7_, h8_⟩ := pullD_elim h6_
      replace f7_ := m_47_ok f7_
      obtain ⟨⟨r6, r7⟩, f9_, h10_⟩ := pullD_elim h8_
      replace f9_ := m_47_ok f9_
      obtain rfl := Option.some.inj h10_
      exact ⟨step_pc 3000 (bT 1 []) [(shNK5B_0 v0 v1 v2 v3), .agg [iD r4, iD r5], .agg [iD r6, iD r7]] [c_d b1_, c_f f3_, c_f f5_] [k_c f7_, k_c f9_] _ rfl (by kernel_rfl) (by kernel_rfl) (by kernel_rfl) (by kernel_rfl) (by kernel_rfl) (by kernel_rfl), trivial⟩
    have h2_ := (if_neg b1_).symm.trans h0
    obtain rfl := Option.some.inj h2_
    exact ⟨step_pc 3000 (bF 1 []) [] [c_n b1_] [] _ rfl (by kernel_rfl) (by kernel_rfl) (by kernel_rfl) (by kernel_rfl) (by kernel_rfl) (by kernel_rfl), by kernel_rfl, by kernel_rfl⟩
  | .next (_ + 1) _, _, h => by cases h
  | .out _ _, _, h => by cases h
theorem scaleOf_L7_go (re fa fb fc fd : Int) (k : Nat) (c : List D) (x0 : Int) {q : Nat} {ds : List D} {j : Nat} {es : List D} (h : runR (scaleOf_L7_S re fa fb fc fd k c x0) (.next q ds) = some (.out j es)) : Runs (ctx [12] scaleOf_sp) Tabs scaleOf_L7_A (stateOf (scaleOf_L7_gs re fa fb fc fd k c x0 (.next q ds))) (stateOf (scaleOf_L7_gs re fa fb fc fd k c x0 (.out j es))) (scaleOf_L7_ax (.out j es)) ∧ (nxtOf (scaleOf_L7_gs re fa fb fc fd k c x0 (.out j es)), lowGS (scaleOf_L7_gs re fa fb fc fd k c x0 (.out j es))) = (scaleOf_L7_A.nx, scaleOf_L7_A.low) :=
  runs_of' (good true _ _) scaleOf_L7_ok (ax := scaleOf_L7_ax) (fun _ _ => rfl) (fun _ _ => axOf_end _) (scaleOf_L7_S_ok re fa fb fc fd k c x0) h
theorem scaleOf_L7_in0 (re fa fb fc fd : Int) (k : Nat) (c : List D) (x0 : Int) {es : List D} (h : runR (scaleOf_L7_S re fa fb fc fd k c x0) (.next 0 [iD ((0 : Int)), iD ((1 : Int)), iD ((1 : Int)), iD ((1 : Int)), iD ((1 : Int))]) = some (.out 0 es)) : LoopC (loopAt Try.prog 12 0) (scaleOf_L7_E re fa fb fc fd k c x0) 5 noFrame scaleOf_x7_0 es :=
  have r := scaleOf_L7_go re fa fb fc fd k c x0 h
  loopin_as rfl (loop_in (l := scaleOf_L7_A) (E := (scaleOf_L7_E re fa fb fc fd k c x0)) (S := stateOf (scaleOf_L7_gs re fa fb fc fd k c x0 (.next 0 [iD ((0 : Int)), iD ((1 : Int)), iD ((1 : Int)), iD ((1 : Int)), iD ((1 : Int))]))) (ns := nsOf (scaleOf_L7_gs re fa fb fc fd k c x0 (.next 0 [iD ((0 : Int)), iD ((1 : Int)), iD ((1 : Int)), iD ((1 : Int)), iD ((1 : Int))]))) scaleOf_L7_ok r.1 r.2 (by kernel_rfl) (by kernel_rfl) (by kernel_rfl) (by kernel_rfl))
def scaleOf_M (re fa fb fc fd : Int) (k : Nat) (c : List D) : Option D := pullD (α := Int) (m_15 [.agg [iD re, iD fa, iD fb, iD fc, iD fd, .list k c]]) (fun d => ((D.vi d))) (fun r0 => iD r0) fun r0 => ((if r0 ≠ (0 : Int) then some (.tup [(shNK5B_0 (0 : Int) (0 : Int) (0 : Int) (0 : Int)), iD r0]) else bindL (runR (scaleOf_L7_S re fa fb fc fd k c r0) (.next 0 [iD ((0 : Int)), iD ((1 : Int)), iD ((1 : Int)), iD ((1 : Int)), iD ((1 : Int))])) fun j ds => (if j = 0 then pullD (α := Int × Int × Int × Int) (some (.tup ds)) (fun d => ((D.vi (D.at d 0)), (D.vi (D.at d 1)), (D.vi (D.at d 2)), (D.vi (D.at d 3)))) (fun (l1, l2, l3, l4) => .tup [iD l1, iD l2, iD l3, iD l4]) fun (l1, l2, l3, l4) => (pullD (α := Bool) (m_48 [.agg [iD l1, iD l2]]) (fun d => ((D.vb d))) (fun r5 => .one (.bool r5)) fun r5 => ((if (r5) = true then some (.tup [(shNK5B_0 (0 : Int) (0 : Int) (0 : Int) (0 : Int)), iD (8 : Int)]) else pullD (α := Bool) (m_48 [.agg [iD l3, iD l4]]) (fun d => ((D.vb d))) (fun r6 => .one (.bool r6)) fun r6 => ((if (r6) = true then some (.tup [(shNK5B_0 (0 : Int) (0 : Int) (0 : Int) (0 : Int)), iD (8 : Int)]) else some (.tup [(shNK5B_0 l1 l2 l3 l4), iD (0 : Int)])))))) else none)))
theorem scaleOf_M_ok (re fa fb fc fd : Int) (k : Nat) (c : List D) {r : D} (h : scaleOf_M re fa fb fc fd k c = some r) : Con 12 [.agg [iD re, iD fa, iD fb, iD fc, iD fd, .list k c]] r := by
  unfold scaleOf_M at h
  obtain ⟨r0, f1_, h2_⟩ := pullD_elim h
  replace f1_ := m_15_ok f1_
  by_cases b3_ : r0 ≠ (0 : Int)
  · have h4_ := (if_pos b3_).symm.trans h2_
    obtain rfl := Option.some.inj h4_
    exact con_pc (op := true) (I := [12]) (sp := scaleOf_sp) 3000 (bT 1 []) [iD r0] [c_b b3_] [k_c f1_] (by kernel_rfl)
  have h4_ := (if_neg b3_).symm.trans h2_
  have b5_ : r0 = (0 : Int) := by first | exact b3_ | simpa using b3_
  obtain ⟨j, ds, e6_, h7_⟩ := bindL_elim h4_
  by_cases j8_ : j = 0
  · have h11_ := (if_pos j8_).symm.trans h7_
    clear h7_
    subst j8_
    obtain ⟨⟨l1, l2, l3, l4⟩, e9_, h12_⟩ := pullD_elim h11_
    clear h11_
    obtain rfl := tup_inj e9_
    have k10_ := scaleOf_L7_in0 re fa fb fc fd k c r0 e6_
    obtain ⟨r5, f13_, h14_⟩ := pullD_elim h12_
    replace f13_ := m_48_ok f13_
    by_cases b15_ : (r5) = true
    · have h16_ := (if_pos b15_).symm.trans h14_
      obtain rfl := Option.some.inj h16_
      exact con_pc (op := true) (I := [12]) (sp := scaleOf_sp) 3000 (bF 1 (bT 5 [])) [iD r0, .tup [iD (Int.ofNat 0), iD l1, iD l2, iD l3, iD l4], .one (.bool r5)] [c_bn b5_, c_q b15_, c_q b15_, c_q b15_, c_q b15_, c_T] [k_c f1_, k_l k10_ (bT 5 []) [.tup [iD (Int.ofNat 0), iD l1, iD l2, iD l3, iD l4], .one (.bool r5)] [.one (.bool r5)], k_c f13_] (by kernel_rfl)
    have h16_ := (if_neg b15_).symm.trans h14_
    have b17_ : (r5) = false := by first | exact b15_ | simpa using b15_
    obtain ⟨r6, f18_, h19_⟩ := pullD_elim h16_
    replace f18_ := m_48_ok f18_
    by_cases b20_ : (r6) = true
    · have h21_ := (if_pos b20_).symm.trans h19_
      obtain rfl := Option.some.inj h21_
      exact con_pc (op := true) (I := [12]) (sp := scaleOf_sp) 3000 (bF 5 (bT 1 [])) [iD r0, .tup [iD (Int.ofNat 0), iD l1, iD l2, iD l3, iD l4], .one (.bool r5), .one (.bool r6)] [c_bn b5_, c_q b17_, c_q b17_, c_q b17_, c_q b17_, c_q b20_] [k_c f1_, k_l k10_ (bF 4 (bT 1 [])) [.tup [iD (Int.ofNat 0), iD l1, iD l2, iD l3, iD l4], .one (.bool r5), .one (.bool r6)] [.one (.bool r5), .one (.bool r6)], k_c f13_, k_c f18_] (by kernel_rfl)
    have h21_ := (if_neg b20_).symm.trans h19_
    have b22_ : (r6) = false := by first | exact b20_ | simpa using b20_
    obtain rfl := Option.some.inj h21_
    exact con_pc (op := true) (I := [12]) (sp := scaleOf_sp) 3000 (bF 6 []) [iD r0, .tup [iD (Int.ofNat 0), iD l1, iD l2, iD l3, iD l4], .one (.bool r5), .one (.bool r6)] [c_bn b5_, c_q b17_, c_q b17_, c_q b17_, c_q b17_, c_q b22_] [k_c f1_, k_l k10_ (bF 5 []) [.tup [iD (Int.ofNat 0), iD l1, iD l2, iD l3, iD l4], .one (.bool r5), .one (.bool r6)] [.one (.bool r5), .one (.bool r6)], k_c f13_, k_c f18_] (by kernel_rfl)
  have h23_ := (if_neg j8_).symm.trans h7_
  clear h7_
  cases h23_
def m_12 (ds : List D) : Option D := pullD (α := Int × Int × Int × Int × Int × Nat × (List D)) (some (.tup ds)) (fun d => ((D.vi (D.at (D.at d 0) 0)), (D.vi (D.at (D.at d 0) 1)), (D.vi (D.at (D.at d 0) 2)), (D.vi (D.at (D.at d 0) 3)), (D.vi (D.at (D.at d 0) 4)), (D.ln (D.at (D.at d 0) 5)), (D.lc (D.at (D.at d 0) 5)))) (fun (re, fa, fb, fc, fd, k, c) => .tup [.agg [iD re, iD fa, iD fb, iD fc, iD fd, .list k c]]) fun (re, fa, fb, fc, fd, k, c) => scaleOf_M re fa fb fc fd k c
theorem m_12_ok {ds : List D} {r : D} (h : m_12 ds = some r) : Con 12 ds r := by
  unfold m_12 at h
  obtain ⟨⟨re, fa, fb, fc, fd, k, c⟩, e0, h0⟩ := pullD_elim h
  obtain rfl := tup_inj e0
  exact scaleOf_M_ok re fa fb fc fd k c h0
theorem m_12_eq (re fa fb fc fd : Int) (k : Nat) (c : List D) : m_12 [.agg [iD re, iD fa, iD fb, iD fc, iD fd, .list k c]] = scaleOf_M re fa fb fc fd k c := pullD_some (re, fa, fb, fc, fd, k, c) rfl rfl
end
end Go.Proofs.Ytjjbacbjdilhmaa
namespace Go.Proofs.Ytjjbacbjdilhmaa
open Go.Ev Go.RowKit
set_option maxRecDepth 100000
set_option maxHeartbeats 8000000
set_option linter.all false
noncomputable section
abbrev shNK5C_0 (a0 : Int) (a1 : Int) (a2 : Int) (a3 : Int) : D := .agg [.one (.int .i64 a0), .one (.int .i64 a1), .one (.int .i64 a2), .one (.int .i64 a3)]
def scaleR_x3_0 : LExit := ⟨some 0, [.cval 4 0, .cval 4 1, .cval 4 2, .cval 4 3, .cval 5 0, .cval 5 1, .cval 5 2, .cval 5 3], (6 :: (List.range' 13 25))⟩
def scaleR_sp : List LSpec := [⟨19, 3, [scaleR_x3_0]⟩]
def scaleR_L3_E (re fa fb fc fd : Int) (k : Nat) (c : List D) (x0 : Int) (x1 : Nat) (x2 : List D) (x3 : Int) (x4 : Nat) (x5 : List D) (x6 : Int) (x7 : Nat) (x8 : List D) (x9 : Int) (x10 : Nat) (x11 : List D) : List AV × AHeap := ([.agg [.pure (.int .i64 re), .pure (.int .i64 fa), .pure (.int .i64 fb), .pure (.int .i64 fc), .pure (.int .i64 fd), .dsl 0], .ptr 1 0, .ptr 2 0, .pure (.bool false), .ptr 7 0, .ptr 8 0, .pure (.int .i64 (0 : Int)), .pure (.tuple #[]), .pure (.tuple #[]), .pure (.tuple #[]), .pure (.tuple #[]), .agg [.pure (.int .i64 x0), .dsl 3, .pure (.int .i64 x3), .dsl 4], .agg [.pure (.int .i64 x6), .dsl 5, .pure (.int .i64 x9), .dsl 6], .pure (.tuple #[]), .pure (.tuple #[]), .pure (.tuple #[]), .pure (.tuple #[]), .pure (.tuple #[]), .pure (.tuple #[]), .pure (.tuple #[]), .pure (.tuple #[]), .pure (.tuple #[]), .pure (.tuple #[]), .pure (.tuple #[]), .pure (.tuple #[]), .pure (.tuple #[]), .pure (.tuple #[]), .pure (.tuple #[]), .pure (.tuple #[]), .pure (.tuple #[]), .pure (.tuple #[]), .pure (.tuple #[]), .pure (.tuple #[]), .pure (.tuple #[]), .pure (.tuple #[]), .pure (.tuple #[]), .pure (.tuple #[]), .pure (.tuple #[]), .pure (.tuple #[]), .pure (.tuple #[]), .pure (.tuple #[]), .pure (.tuple #[]), .pure (.tuple #[]), .pure (.tuple #[]), .pure (.tuple #[]), .pure (.tuple #[]), .pure (.tuple #[]), .pure (.tuple #[]), .pure (.tuple #[]), .pure (.tuple #[]), .pure (.tuple #[]), .pure (.tuple #[]), .pure (.tuple #[]), .pure (.tuple #[]), .pure (.tuple #[]), .pure (.tuple #[]), .pure (.tuple #[]), .pure (.tuple #[])], [(8, { cells := [.pure (.int .i64 x6), .dsl 5, .pure (.int .i64 x9), .dsl 6], opn := none, kind := .cells }), (7, { cells := [.pure (.int .i64 x0), .dsl 3, .pure (.int .i64 x3), .dsl 4], opn := none, kind := .cells }), (6, { cells := [], opn := none, kind := .deep x10 x11 }), (5, { cells := [], opn := none, kind := .deep x7 x8 }), (4, { cells := [], opn := none, kind := .deep x4 x5 }), (3, { cells := [], opn := none, kind := .deep x1 x2 }), (2, { cells := [.pure (.int .i64 (0 : Int)), .pure (.int .i64 (0 : Int)), .pure (.int .i64 (0 : Int)), .pure (.int .i64 (0 : Int))], opn := none, kind := .cells }), (1, { cells := [.pure (.int .i64 re), .pure (.int .i64 fa), .pure (.int .i64 fb), .pure (.int .i64 fc), .pure (.int .i64 fd), .dsl 0], opn := none, kind := .cells }), (0, { cells := [], opn := none, kind := .deep k c })])
def scaleR_L3_A : LoopAt := ⟨19, loopAt Try.prog 19 0, 9, 43, 7, noFrame⟩
theorem scaleR_L3_ok : (scaleR_L3_A).OK := ⟨by show 9 ≤ 43; decide, by show 7 ≤ 9; decide, by kernel_rfl, rfl⟩
def scaleR_L3_gs (re fa fb fc fd : Int) (k : Nat) (c : List D) (x0 : Int) (x1 : Nat) (x2 : List D) (x3 : Int) (x4 : Nat) (x5 : List D) (x6 : Int) (x7 : Nat) (x8 : List D) (x9 : Int) (x10 : Nat) (x11 : List D) : Go.Ev.Rd → Option GS
  | .next 0 ds => ghost [.val 6, .cval 4 0, .cval 4 1, .cval 4 2, .cval 4 3, .cval 5 0, .cval 5 1, .cval 5 2, .cval 5 3] (List.range' 13 25) (scaleR_L3_E re fa fb fc fd k c x0 x1 x2 x3 x4 x5 x6 x7 x8 x9 x10 x11).1 (scaleR_L3_E re fa fb fc fd k c x0 x1 x2 x3 x4 x5 x6 x7 x8 x9 x10 x11).2 9 ds
  | .out 0 ds => ghost scaleR_x3_0.live scaleR_x3_0.junk (scaleR_L3_E re fa fb fc fd k c x0 x1 x2 x3 x4 x5 x6 x7 x8 x9 x10 x11).1 (scaleR_L3_E re fa fb fc fd k c x0 x1 x2 x3 x4 x5 x6 x7 x8 x9 x10 x11).2 9 ds
  | _ => none
def scaleR_L3_ex : Nat → Option Nat
  | 0 => scaleR_x3_0.ex
  | _ => none
def scaleR_L3_ax : Go.Ev.Rd → AX
  | .next _ _ => .normal
  | .out j _ => axOf (scaleR_L3_ex j)
def scaleR_L3_S0 (re fa fb fc fd : Int) (k : Nat) (c : List D) (x0 : Int) (x1 : Nat) (x2 : List D) (x3 : Int) (x4 : Nat) (x5 : List D) (x6 : Int) (x7 : Nat) (x8 : List D) (x9 : Int) (x10 : Nat) (x11 : List D) (ds : List D) : Option Go.Ev.Rd := pullD (α := Int × Int × Nat × (List D) × Int × Nat × (List D) × Int × Nat × (List D) × Int × Nat × (List D)) (some (.tup ds)) (fun d => ((D.vi (D.at d 0)), (D.vi (D.at d 1)), (D.ln (D.at d 2)), (D.lc (D.at d 2)), (D.vi (D.at d 3)), (D.ln (D.at d 4)), (D.lc (D.at d 4)), (D.vi (D.at d 5)), (D.ln (D.at d 6)), (D.lc (D.at d 6)), (D.vi (D.at d 7)), (D.ln (D.at d 8)), (D.lc (D.at d 8)))) (fun (s6, s4_0, s4_1n, s4_1c, s4_2, s4_3n, s4_3c, s5_0, s5_1n, s5_1c, s5_2, s5_3n, s5_3c) => .tup [iD s6, iD s4_0, .list s4_1n s4_1c, iD s4_2, .list s4_3n s4_3c, iD s5_0, .list s5_1n s5_1c, iD s5_2, .list s5_3n s5_3c]) fun (s6, s4_0, s4_1n, s4_1c, s4_2, s4_3n, s4_3c, s5_0, s5_1n, s5_1c, s5_2, s5_3n, s5_3c) => ((if s6 < (k : Int) then guardP ((0 : Int) ≤ s6 ∧ s6.toNat < k) (guardP (0 < k) (pullD (α := Int × Int) (readD c (s6.toNat * 4 + 0) 2 true) (fun d => ((D.vi (D.at d 0)), (D.vi (D.at d 1)))) (fun (v0, v1) => .agg [iD v0, iD v1]) fun (v0, v1) => (pullD (α := Int × Nat × (List D) × Int × Nat × (List D)) (m_59 [.agg [iD v0, iD v1]]) (fun d => ((D.vi (D.at d 0)), (D.ln (D.at d 1)), (D.lc (D.at d 1)), (D.vi (D.at d 2)), (D.ln (D.at d 3)), (D.lc (D.at d 3)))) (fun (r2, k3, c4, r5, k6, c7) => .agg [iD r2, .list k3 c4, iD r5, .list k6 c7]) fun (r2, k3, c4, r5, k6, c7) => (pullD (α := Int × Nat × (List D) × Int × Nat × (List D)) (m_58 [.agg [iD s4_0, .list s4_1n s4_1c, iD s4_2, .list s4_3n s4_3c], .agg [iD r2, .list k3 c4, iD r5, .list k6 c7]]) (fun d => ((D.vi (D.at d 0)), (D.ln (D.at d 1)), (D.lc (D.at d 1)), (D.vi (D.at d 2)), (D.ln (D.at d 3)), (D.lc (D.at d 3)))) (fun (r8, k9, c10, r11, k12, c13) => .agg [iD r8, .list k9 c10, iD r11, .list k12 c13]) fun (r8, k9, c10, r11, k12, c13) => (pullD (α := Int × Int) (readD c (s6.toNat * 4 + 2) 2 true) (fun d => ((D.vi (D.at d 0)), (D.vi (D.at d 1)))) (fun (v14, v15) => .agg [iD v14, iD v15]) fun (v14, v15) => (pullD (α := Int × Nat × (List D) × Int × Nat × (List D)) (m_59 [.agg [iD v14, iD v15]]) (fun d => ((D.vi (D.at d 0)), (D.ln (D.at d 1)), (D.lc (D.at d 1)), (D.vi (D.at d 2)), (D.ln (D.at d 3)), (D.lc (D.at d 3)))) (fun (r16, k17, c18, r19, k20, c21) => .agg [iD r16, .list k17 c18, iD r19, .list k20 c21]) fun (r16, k17, c18, r19, k20, c21) => (pullD (α := Int × Nat × (List D) × Int × Nat × (List D)) (m_58 [.agg [iD s5_0, .list s5_1n s5_1c, iD s5_2, .list s5_3n s5_3c], .agg [iD r16, .list k17 c18, iD r19, .list k20 c21]]) (fun d => ((D.vi (D.at d 0)), (D.ln (D.at d 1)), (D.lc (D.at d 1)), (D.vi (D.at d 2)), (D.ln (D.at d 3)), (D.lc (D.at d 3)))) (fun (r22, k23, c24, r25, k26, c27) => .agg [iD r22, .list k23 c24, iD r25, .list k26 c27]) fun (r22, k23, c24, r25, k26, c27) => (some (.next 0 [iD (IntKind.i64.wrap (s6 + (1 : Int))), iD r8, .list k9 c10, iD r11, .list k12 c13, iD r22, .list k23 c24, iD r25, .list k26 c27]))))))))) else some (.out 0 [iD s4_0, .list s4_1n s4_1c, iD s4_2, .list s4_3n s4_3c, iD s5_0, .list s5_1n s5_1c, iD s5_2, .list s5_3n s5_3c])))
def scaleR_L3_S (re fa fb fc fd : Int) (k : Nat) (c : List D) (x0 : Int) (x1 : Nat) (x2 : List D) (x3 : Int) (x4 : Nat) (x5 : List D) (x6 : Int) (x7 : Nat) (x8 : List D) (x9 : Int) (x10 : Nat) (x11 : List D) : Go.Ev.Rd → Option Go.Ev.Rd
  | .next 0 ds => scaleR_L3_S0 re fa fb fc fd k c x0 x1 x2 x3 x4 x5 x6 x7 x8 x9 x10 x11 ds
  | _ => none
theorem scaleR_L3_S_0 (re fa fb fc fd : Int) (k : Nat) (c : List D) (x0 : Int) (x1 : Nat) (x2 : List D) (x3 : Int) (x4 : Nat) (x5 : List D) (x6 : Int) (x7 : Nat) (x8 : List D) (x9 : Int) (x10 : Nat) (x11 : List D) (ds : List D) : scaleR_L3_S re fa fb fc fd k c x0 x1 x2 x3 x4 x5 x6 x7 x8 x9 x10 x11 (.next 0 ds) = scaleR_L3_S0 re fa fb fc fd k c x0 x1 x2 x3 x4 x5 x6 x7 x8 x9 x10 x11 ds := rfl
theorem scaleR_L3_S_ok (re fa fb fc fd : Int) (k : Nat) (c : List D) (x0 : Int) (x1 : Nat) (x2 : List D) (x3 : Int) (x4 : Nat) (x5 : List D) (x6 : Int) (x7 : Nat) (x8 : List D) (x9 : Int) (x10 : Nat) (x11 : List D) : ∀ s_ t_, scaleR_L3_S re fa fb fc fd k c x0 x1 x2 x3 x4 x5 x6 x7 x8 x9 x10 x11 s_ = some t_ → Step (ctx [19] scaleR_sp) Tabs scaleR_L3_A (stateOf (scaleR_L3_gs re fa fb fc fd k c x0 x1 x2 x3 x4 x5 x6 x7 x8 x9 x10 x11 s_)) (stateOf (scaleR_L3_gs re fa fb fc fd k c x0 x1 x2 x3 x4 x5 x6 x7 x8 x9 x10 x11 t_)) (scaleR_L3_ax t_) ∧ EndOK scaleR_L3_A.nx scaleR_L3_A.low (scaleR_L3_gs re fa fb fc fd k c x0 x1 x2 x3 x4 x5 x6 x7 x8 x9 x10 x11) t_
  | .next 0 ds, t_, h => by
    have h_ : scaleR_L3_S0 re fa fb fc fd k c x0 x1 x2 x3 x4 x5 x6 x7 x8 x9 x10 x11 ds = some t_ := h
    clear h
    unfold scaleR_L3_S0 at h_
    obtain ⟨⟨s6, s4_0, s4_1n, s4_1c, s4_2, s4_3n, s4_3c, s5_0, s5_1n, s5_1c, s5_2, s5_3n, s5_3c⟩, e0, h0⟩ := pullD_elim h_
    clear h_
    obtain rfl := tup_inj e0
    by_cases b1_ : s6 < (k : Int)
    · have h2_ := (if_pos b1_).symm.trans h0
      obtain ⟨f3_, h4_⟩ := guardP_elim h2_
      obtain ⟨f5_, h6_⟩ := guardP_elim h4_
      obtain ⟨⟨v0, v1⟩, f7_, h8_⟩ := pullD_elim h6_
      replace f7_ := readD_elim f7_
      obtain ⟨⟨r2, k3, c4, r5, k6, c7⟩, f9_, h10_⟩ := pullD_elim h8_
      replace f9_ := m_59_ok f9_
      obtain ⟨⟨r8, k9, c10, r11, k12, c13⟩, f11_, h12_⟩ := pullD_elim h10_
      replace f11_ := m_58_ok f11_
      obtain ⟨⟨v14, v15⟩, f13_, h14_⟩ := pullD_elim h12_
      replace f13_ := readD_elim f13_
      obtain ⟨⟨r16, k17, c18, r19, k20, c21⟩, f15_, h16_⟩ := pullD_elim h14_
      replace f15_ := m_59_ok f15_
      obtain ⟨⟨r22, k23, c24, r25, k26, c27⟩, f17_, h18_⟩ := pullD_elim h16_
      replace f17_ := m_58_ok f17_
      obtain rfl := Option.some.inj h18_
      exact ⟨step_pc 3000 (bT 1 []) [.agg [iD v0, iD v1], .agg [iD r2, .list k3 c4, iD r5, .list k6 c7], .agg [iD r8, .list k9 c10, iD r11, .list k12 c13], .agg [iD v14, iD v15], .agg [iD r16, .list k17 c18, iD r19, .list k20 c21], .agg [iD r22, .list k23 c24, iD r25, .list k26 c27]] [c_d b1_, c_f f3_, c_f f5_, c_f f7_, c_f f3_, c_f f5_, c_f f13_] [k_c f9_, k_c f11_, k_c f15_, k_c f17_] _ rfl (by kernel_rfl) (by kernel_rfl) (by kernel_rfl) (by kernel_rfl) (by kernel_rfl) (by kernel_rfl), trivial⟩
    have h2_ := (if_neg b1_).symm.trans h0
    obtain rfl := Option.some.inj h2_
    exact ⟨step_pc 3000 (bF 1 []) [] [c_n b1_] [] _ rfl (by kernel_rfl) (by kernel_rfl) (by kernel_rfl) (by kernel_rfl) (by kernel_rfl) (by kernel_rfl), by kernel_rfl, by kernel_rfl⟩
  | .next (_ + 1) _, _, h => by cases h
  | .out _ _, _, h => by cases h
theorem scaleR_L3_go (re fa fb fc fd : Int) (k : Nat) (c : List D) (x0 : Int) (x1 : Nat) (x2 : List D) (x3 : Int) (x4 : Nat) (x5 : List D) (x6 : Int) (x7 : Nat) (x8 : List D) (x9 : Int) (x10 : Nat) (x11 : List D) {q : Nat} {ds : List D} {j : Nat} {es : List D} (h : runR (scaleR_L3_S re fa fb fc fd k c x0 x1 x2 x3 x4 x5 x6 x7 x8 x9 x10 x11) (.next q ds) = some (.out j es)) : Runs (ctx [19] scaleR_sp) Tabs scaleR_L3_A (stateOf (scaleR_L3_gs re fa fb fc fd k c x0 x1 x2 x3 x4 x5 x6 x7 x8 x9 x10 x11 (.next q ds))) (stateOf (scaleR_L3_gs re fa fb fc fd k c x0 x1 x2 x3 x4 x5 x6 x7 x8 x9 x10 x11 (.out j es))) (scaleR_L3_ax (.out j es)) ∧ (nxtOf (scaleR_L3_gs re fa fb fc fd k c x0 x1 x2 x3 x4 x5 x6 x7 x8 x9 x10 x11 (.out j es)), lowGS (scaleR_L3_gs re fa fb fc fd k c x0 x1 x2 x3 x4 x5 x6 x7 x8 x9 x10 x11 (.out j es))) = (scaleR_L3_A.nx, scaleR_L3_A.low) :=
  runs_of' (good true _ _) scaleR_L3_ok (ax := scaleR_L3_ax) (fun _ _ => rfl) (fun _ _ => axOf_end _) (scaleR_L3_S_ok re fa fb fc fd k c x0 x1 x2 x3 x4 x5 x6 x7 x8 x9 x10 x11) h
theorem scaleR_L3_in0 (re fa fb fc fd : Int) (k : Nat) (c : List D) (x0 : Int) (x1 : Nat) (x2 : List D) (x3 : Int) (x4 : Nat) (x5 : List D) (x6 : Int) (x7 : Nat) (x8 : List D) (x9 : Int) (x10 : Nat) (x11 : List D) {es : List D} (h : runR (scaleR_L3_S re fa fb fc fd k c x0 x1 x2 x3 x4 x5 x6 x7 x8 x9 x10 x11) (.next 0 [iD ((0 : Int)), iD x0, .list (x1) (x2), iD x3, .list (x4) (x5), iD x6, .list (x7) (x8), iD x9, .list (x10) (x11)]) = some (.out 0 es)) : LoopC (loopAt Try.prog 19 0) (scaleR_L3_E re fa fb fc fd k c x0 x1 x2 x3 x4 x5 x6 x7 x8 x9 x10 x11) 9 noFrame scaleR_x3_0 es :=
  have r := scaleR_L3_go re fa fb fc fd k c x0 x1 x2 x3 x4 x5 x6 x7 x8 x9 x10 x11 h
  loopin_as rfl (loop_in (l := scaleR_L3_A) (E := (scaleR_L3_E re fa fb fc fd k c x0 x1 x2 x3 x4 x5 x6 x7 x8 x9 x10 x11)) (S := stateOf (scaleR_L3_gs re fa fb fc fd k c x0 x1 x2 x3 x4 x5 x6 x7 x8 x9 x10 x11 (.next 0 [iD ((0 : Int)), iD x0, .list (x1) (x2), iD x3, .list (x4) (x5), iD x6, .list (x7) (x8), iD x9, .list (x10) (x11)]))) (ns := nsOf (scaleR_L3_gs re fa fb fc fd k c x0 x1 x2 x3 x4 x5 x6 x7 x8 x9 x10 x11 (.next 0 [iD ((0 : Int)), iD x0, .list (x1) (x2), iD x3, .list (x4) (x5), iD x6, .list (x7) (x8), iD x9, .list (x10) (x11)]))) scaleR_L3_ok r.1 r.2 (by kernel_rfl) (by kernel_rfl) (by kernel_rfl) (by kernel_rfl))
def scaleR_M (re fa fb fc fd : Int) (k : Nat) (c : List D) : Option D := pullD (α := Int × Nat × (List D) × Int × Nat × (List D)) (m_57 [iD (1 : Int)]) (fun d => ((D.vi (D.at d 0)), (D.ln (D.at d 1)), (D.lc (D.at d 1)), (D.vi (D.at d 2)), (D.ln (D.at d 3)), (D.lc (D.at d 3)))) (fun (r0, k1, c2, r3, k4, c5) => .agg [iD r0, .list k1 c2, iD r3, .list k4 c5]) fun (r0, k1, c2, r3, k4, c5) => (pullD (α := Int × Nat × (List D) × Int × Nat × (List D)) (m_57 [iD (1 : Int)]) (fun d => ((D.vi (D.at d 0)), (D.ln (D.at d 1)), (D.lc (D.at d 1)), (D.vi (D.at d 2)), (D.ln (D.at d 3)), (D.lc (D.at d 3)))) (fun (r6, k7, c8, r9, k10, c11) => .agg [iD r6, .list k7 c8, iD r9, .list k10 c11]) fun (r6, k7, c8, r9, k10, c11) => (bindL (runR (scaleR_L3_S re fa fb fc fd k c r0 k1 c2 r3 k4 c5 r6 k7 c8 r9 k10 c11) (.next 0 [iD ((0 : Int)), iD r0, .list (k1) (c2), iD r3, .list (k4) (c5), iD r6, .list (k7) (c8), iD r9, .list (k10) (c11)])) fun j ds => (if j = 0 then pullD (α := Int × Nat × (List D) × Int × Nat × (List D) × Int × Nat × (List D) × Int × Nat × (List D)) (some (.tup ds)) (fun d => ((D.vi (D.at d 0)), (D.ln (D.at d 1)), (D.lc (D.at d 1)), (D.vi (D.at d 2)), (D.ln (D.at d 3)), (D.lc (D.at d 3)), (D.vi (D.at d 4)), (D.ln (D.at d 5)), (D.lc (D.at d 5)), (D.vi (D.at d 6)), (D.ln (D.at d 7)), (D.lc (D.at d 7)))) (fun (l12, k13, c14, l15, k16, c17, l18, k19, c20, l21, k22, c23) => .tup [iD l12, .list k13 c14, iD l15, .list k16 c17, iD l18, .list k19 c20, iD l21, .list k22 c23]) fun (l12, k13, c14, l15, k16, c17, l18, k19, c20, l21, k22, c23) => (pullD (α := Int × Int × Bool) (m_60 [.agg [iD l12, .list k13 c14, iD l15, .list k16 c17]]) (fun d => ((D.vi (D.at (D.at d 0) 0)), (D.vi (D.at (D.at d 0) 1)), (D.vb (D.at d 1)))) (fun (r24, r25, r26) => .tup [.agg [iD r24, iD r25], .one (.bool r26)]) fun (r24, r25, r26) => (pullD (α := Int × Int × Bool) (m_60 [.agg [iD l18, .list k19 c20, iD l21, .list k22 c23]]) (fun d => ((D.vi (D.at (D.at d 0) 0)), (D.vi (D.at (D.at d 0) 1)), (D.vb (D.at d 1)))) (fun (r27, r28, r29) => .tup [.agg [iD r27, iD r28], .one (.bool r29)]) fun (r27, r28, r29) => ((if r26 = false then some (.tup [(shNK5C_0 (0 : Int) (0 : Int) (0 : Int) (0 : Int)), .one (.bool false)]) else (if r29 = false then some (.tup [(shNK5C_0 (0 : Int) (0 : Int) (0 : Int) (0 : Int)), .one (.bool false)]) else some (.tup [(shNK5C_0 r24 r25 r27 r28), .one (.bool true)])))))) else none)))
theorem scaleR_M_ok (re fa fb fc fd : Int) (k : Nat) (c : List D) {r : D} (h : scaleR_M re fa fb fc fd k c = some r) : Con 19 [.agg [iD re, iD fa, iD fb, iD fc, iD fd, .list k c]] r := by
  unfold scaleR_M at h
  obtain ⟨⟨r0, k1, c2, r3, k4, c5⟩, f1_, h2_⟩ := pullD_elim h
  replace f1_ := m_57_ok f1_
  obtain ⟨⟨r6, k7, c8, r9, k10, c11⟩, f3_, h4_⟩ := pullD_elim h2_
  replace f3_ := m_57_ok f3_
  obtain ⟨j, ds, e5_, h6_⟩ := bindL_elim h4_
  by_cases j7_ : j = 0
  · have h10_ := (if_pos j7_).symm.trans h6_
    clear h6_
    subst j7_
    obtain ⟨⟨l12, k13, c14, l15, k16, c17, l18, k19, c20, l21, k22, c23⟩, e8_, h11_⟩ := pullD_elim h10_
    clear h10_
    obtain rfl := tup_inj e8_
    have k9_ := scaleR_L3_in0 re fa fb fc fd k c r0 k1 c2 r3 k4 c5 r6 k7 c8 r9 k10 c11 e5_
    obtain ⟨⟨r24, r25, r26⟩, f12_, h13_⟩ := pullD_elim h11_
    replace f12_ := m_60_ok f12_
    obtain ⟨⟨r27, r28, r29⟩, f14_, h15_⟩ := pullD_elim h13_
    replace f14_ := m_60_ok f14_
    by_cases b16_ : r26 = false
    · have h17_ := (if_pos b16_).symm.trans h15_
      obtain rfl := Option.some.inj h17_
      exact con_pc (op := true) (I := [19]) (sp := scaleR_sp) 3000 (bT 4 []) [.agg [iD r0, .list k1 c2, iD r3, .list k4 c5], .agg [iD r6, .list k7 c8, iD r9, .list k10 c11], .tup [iD (Int.ofNat 0), iD l12, .list k13 c14, iD l15, .list k16 c17, iD l18, .list k19 c20, iD l21, .list k22 c23], .tup [.agg [iD r24, iD r25], .one (.bool r26)], .tup [.agg [iD r27, iD r28], .one (.bool r29)]] [c_no b16_, c_no b16_, c_no b16_, c_T] [k_c f1_, k_c f3_, k_l k9_ (bT 4 []) [.tup [iD (Int.ofNat 0), iD l12, .list k13 c14, iD l15, .list k16 c17, iD l18, .list k19 c20, iD l21, .list k22 c23], .tup [.agg [iD r24, iD r25], .one (.bool r26)], .tup [.agg [iD r27, iD r28], .one (.bool r29)]] [.tup [.agg [iD r24, iD r25], .one (.bool r26)], .tup [.agg [iD r27, iD r28], .one (.bool r29)]], k_c f12_, k_c f14_] (by kernel_rfl)
    have h17_ := (if_neg b16_).symm.trans h15_
    have b18_ : r26 = true := by first | exact b16_ | simpa using b16_
    by_cases b19_ : r29 = false
    · have h20_ := (if_pos b19_).symm.trans h17_
      obtain rfl := Option.some.inj h20_
      exact con_pc (op := true) (I := [19]) (sp := scaleR_sp) 3000 (bF 3 (bT 1 [])) [.agg [iD r0, .list k1 c2, iD r3, .list k4 c5], .agg [iD r6, .list k7 c8, iD r9, .list k10 c11], .tup [iD (Int.ofNat 0), iD l12, .list k13 c14, iD l15, .list k16 c17, iD l18, .list k19 c20, iD l21, .list k22 c23], .tup [.agg [iD r24, iD r25], .one (.bool r26)], .tup [.agg [iD r27, iD r28], .one (.bool r29)]] [c_nn b18_, c_nn b18_, c_nn b18_, c_no b19_] [k_c f1_, k_c f3_, k_l k9_ (bF 3 (bT 1 [])) [.tup [iD (Int.ofNat 0), iD l12, .list k13 c14, iD l15, .list k16 c17, iD l18, .list k19 c20, iD l21, .list k22 c23], .tup [.agg [iD r24, iD r25], .one (.bool r26)], .tup [.agg [iD r27, iD r28], .one (.bool r29)]] [.tup [.agg [iD r24, iD r25], .one (.bool r26)], .tup [.agg [iD r27, iD r28], .one (.bool r29)]], k_c f12_, k_c f14_] (by kernel_rfl)
    have h20_ := (if_neg b19_).symm.trans h17_
    have b21_ : r29 = true := by first | exact b19_ | simpa using b19_
    obtain rfl := Option.some.inj h20_
    exact con_pc (op := true) (I := [19]) (sp := scaleR_sp) 3000 (bF 4 []) [.agg [iD r0, .list k1 c2, iD r3, .list k4 c5], .agg [iD r6, .list k7 c8, iD r9, .list k10 c11], .tup [iD (Int.ofNat 0), iD l12, .list k13 c14, iD l15, .list k16 c17, iD l18, .list k19 c20, iD l21, .list k22 c23], .tup [.agg [iD r24, iD r25], .one (.bool r26)], .tup [.agg [iD r27, iD r28], .one (.bool r29)]] [c_nn b18_, c_nn b18_, c_nn b18_, c_nn b21_] [k_c f1_, k_c f3_, k_l k9_ (bF 4 []) [.tup [iD (Int.ofNat 0), iD l12, .list k13 c14, iD l15, .list k16 c17, iD l18, .list k19 c20, iD l21, .list k22 c23], .tup [.agg [iD r24, iD r25], .one (.bool r26)], .tup [.agg [iD r27, iD r28], .one (.bool r29)]] [.tup [.agg [iD r24, iD r25], .one (.bool r26)], .tup [.agg [iD r27, iD r28], .one (.bool r29)]], k_c f12_, k_c f14_] (by kernel_rfl)
  have h22_ := (if_neg j7_).symm.trans h6_
  clear h6_
  cases h22_
def m_19 (ds : List D) : Option D := pullD (α := Int × Int × Int × Int × Int × Nat × (List D)) (some (.tup ds)) (fun d => ((D.vi (D.at (D.at d 0) 0)), (D.vi (D.at (D.at d 0) 1)), (D.vi (D.at (D.at d 0) 2)), (D.vi (D.at (D.at d 0) 3)), (D.vi (D.at (D.at d 0) 4)), (D.ln (D.at (D.at d 0) 5)), (D.lc (D.at (D.at d 0) 5)))) (fun (re, fa, fb, fc, fd, k, c) => .tup [.agg [iD re, iD fa, iD fb, iD fc, iD fd, .list k c]]) fun (re, fa, fb, fc, fd, k, c) => scaleR_M re fa fb fc fd k c
theorem m_19_ok {ds : List D} {r : D} (h : m_19 ds = some r) : Con 19 ds r := by
  unfold m_19 at h
  obtain ⟨⟨re, fa, fb, fc, fd, k, c⟩, e0, h0⟩ := pullD_elim h
  obtain rfl := tup_inj e0
  exact scaleR_M_ok re fa fb fc fd k c h0
theorem m_19_eq (re fa fb fc fd : Int) (k : Nat) (c : List D) : m_19 [.agg [iD re, iD fa, iD fb, iD fc, iD fd, .list k c]] = scaleR_M re fa fb fc fd k c := pullD_some (re, fa, fb, fc, fd, k, c) rfl rfl
end
end Go.Proofs.Ytjjbacbjdilhmaa
namespace Go.Proofs.Ytjjbacbjdilhmaa
open Go.Ev Go.RowKit
set_option maxRecDepth 100000
set_option maxHeartbeats 8000000
set_option linter.all false
noncomputable section
abbrev shNK5D_0 (a0 : Int) (a1 : Int) (a2 : Int) (a3 : Int) : D := .agg [.one (.int .i64 a0), .one (.int .i64 a1), .one (.int .i64 a2), .one (.int .i64 a3)]
def law3_sp : List LSpec := []
def law3_M (re fa fb fc fd : Int) (k : Nat) (c : List D) (st : Int) (kb : Nat) (cb : List D) : Option D := pullD (α := Bool) (m_9 []) (fun d => ((D.vb d))) (fun r0 => .one (.bool r0)) fun r0 => ((if r0 = false then some (.one (.bool false)) else pullD (α := Bool) (m_10 [.agg [iD st, .list kb cb]]) (fun d => ((D.vb d))) (fun r1 => .one (.bool r1)) fun r1 => ((if r1 = false then some (.one (.bool true)) else pullD (α := Bool) (m_11 [.agg [iD re, iD fa, iD fb, iD fc, iD fd, .list k c]]) (fun d => ((D.vb d))) (fun r2 => .one (.bool r2)) fun r2 => ((if r2 = false then some (.one (.bool true)) else pullD (α := Int × Int × Int × Int × Int × Nat × (List D)) (m_13 [.agg [iD re, iD fa, iD fb, iD fc, iD fd, .list k c]]) (fun d => ((D.vi (D.at d 0)), (D.vi (D.at d 1)), (D.vi (D.at d 2)), (D.vi (D.at d 3)), (D.vi (D.at d 4)), (D.ln (D.at d 5)), (D.lc (D.at d 5)))) (fun (r3, r4, r5, r6, r7, k8, c9) => .agg [iD r3, iD r4, iD r5, iD r6, iD r7, .list k8 c9]) fun (r3, r4, r5, r6, r7, k8, c9) => (pullD (α := Int × Int × Int × Int × Int) (m_12 [.agg [iD r3, iD r4, iD r5, iD r6, iD r7, .list k8 c9]]) (fun d => ((D.vi (D.at (D.at d 0) 0)), (D.vi (D.at (D.at d 0) 1)), (D.vi (D.at (D.at d 0) 2)), (D.vi (D.at (D.at d 0) 3)), (D.vi (D.at d 1)))) (fun (r10, r11, r12, r13, r14) => .tup [(shNK5D_0 r10 r11 r12 r13), iD r14]) fun (r10, r11, r12, r13, r14) => (pullD (α := Int) (m_14 [.agg [iD re, iD fa, iD fb, iD fc, iD fd, .list k c]]) (fun d => ((D.vi d))) (fun r15 => iD r15) fun r15 => (pullD (α := Int × Int × Int × Int × Int × Nat × (List D)) (m_13 [.agg [iD re, iD fa, iD fb, iD fc, iD fd, .list k c]]) (fun d => ((D.vi (D.at d 0)), (D.vi (D.at d 1)), (D.vi (D.at d 2)), (D.vi (D.at d 3)), (D.vi (D.at d 4)), (D.ln (D.at d 5)), (D.lc (D.at d 5)))) (fun (r16, r17, r18, r19, r20, k21, c22) => .agg [iD r16, iD r17, iD r18, iD r19, iD r20, .list k21 c22]) fun (r16, r17, r18, r19, r20, k21, c22) => (pullD (α := Int) (m_15 [.agg [iD r16, iD r17, iD r18, iD r19, iD r20, .list k21 c22]]) (fun d => ((D.vi d))) (fun r23 => iD r23) fun r23 => ((if r23 ≠ r15 then some (.one (.bool false)) else pullD (α := Int × Nat × (List D)) (m_17 [.agg [iD st, .list kb cb]]) (fun d => ((D.vi (D.at d 0)), (D.ln (D.at d 1)), (D.lc (D.at d 1)))) (fun (r24, k25, c26) => .agg [iD r24, .list k25 c26]) fun (r24, k25, c26) => (pullD (α := Int) (m_16 [.agg [iD r24, .list k25 c26]]) (fun d => ((D.vi d))) (fun r27 => iD r27) fun r27 => (pullD (α := Int) (m_18 [.agg [iD st, .list kb cb]]) (fun d => ((D.vi d))) (fun r28 => iD r28) fun r28 => ((if r27 ≠ r28 then some (.one (.bool false)) else (if r15 ≠ (0 : Int) then (if r14 = r15 then some (.one (.bool (r10 == (0 : Int) && (r11 == (0 : Int) && true) && (r12 == (0 : Int) && (r13 == (0 : Int) && true) && true)))) else some (.one (.bool false))) else pullD (α := Int × Int × Int × Int × Bool) (m_19 [.agg [iD re, iD fa, iD fb, iD fc, iD fd, .list k c]]) (fun d => ((D.vi (D.at (D.at d 0) 0)), (D.vi (D.at (D.at d 0) 1)), (D.vi (D.at (D.at d 0) 2)), (D.vi (D.at (D.at d 0) 3)), (D.vb (D.at d 1)))) (fun (r29, r30, r31, r32, r33) => .tup [(shNK5D_0 r29 r30 r31 r32), .one (.bool r33)]) fun (r29, r30, r31, r32, r33) => ((if r33 = false then (if r14 = (8 : Int) then some (.one (.bool (r10 == (0 : Int) && (r11 == (0 : Int) && true) && (r12 == (0 : Int) && (r13 == (0 : Int) && true) && true)))) else some (.one (.bool false))) else (if r14 = (0 : Int) then some (.one (.bool (r10 == r29 && (r11 == r30 && true) && (r12 == r31 && (r13 == r32 && true) && true)))) else some (.one (.bool false))))))))))))))))))))))
theorem law3_M_ok (re fa fb fc fd : Int) (k : Nat) (c : List D) (st : Int) (kb : Nat) (cb : List D) {r : D} (h : law3_M re fa fb fc fd k c st kb cb = some r) : Con 3 [.agg [iD re, iD fa, iD fb, iD fc, iD fd, .list k c], .agg [iD st, .list kb cb]] r := by
  unfold law3_M at h
  obtain ⟨r0, f1_, h2_⟩ := pullD_elim h
  replace f1_ := m_9_ok f1_
  by_cases b3_ : r0 = false
  · have h4_ := (if_pos b3_).symm.trans h2_
    obtain rfl := Option.some.inj h4_
    exact con_pc (op := true) (I := [3]) (sp := law3_sp) 3000 (bT 1 []) [.one (.bool r0)] [c_no b3_] [k_c f1_] (by kernel_rfl)
  have h4_ := (if_neg b3_).symm.trans h2_
  have b5_ : r0 = true := by first | exact b3_ | simpa using b3_
  obtain ⟨r1, f6_, h7_⟩ := pullD_elim h4_
  replace f6_ := m_10_ok f6_
  by_cases b8_ : r1 = false
  · have h9_ := (if_pos b8_).symm.trans h7_
    obtain rfl := Option.some.inj h9_
    exact con_pc (op := true) (I := [3]) (sp := law3_sp) 3000 (bF 1 (bT 5 [])) [.one (.bool r0), .one (.bool r1)] [c_nn b5_, c_no b8_, c_no b8_, c_no b8_, c_no b8_, c_T] [k_c f1_, k_c f6_] (by kernel_rfl)
  have h9_ := (if_neg b8_).symm.trans h7_
  have b10_ : r1 = true := by first | exact b8_ | simpa using b8_
  obtain ⟨r2, f11_, h12_⟩ := pullD_elim h9_
  replace f11_ := m_11_ok f11_
  by_cases b13_ : r2 = false
  · have h14_ := (if_pos b13_).symm.trans h12_
    obtain rfl := Option.some.inj h14_
    exact con_pc (op := true) (I := [3]) (sp := law3_sp) 3000 (bF 5 (bT 1 [])) [.one (.bool r0), .one (.bool r1), .one (.bool r2)] [c_nn b5_, c_nn b10_, c_nn b10_, c_nn b10_, c_nn b10_, c_no b13_] [k_c f1_, k_c f6_, k_c f11_] (by kernel_rfl)
  have h14_ := (if_neg b13_).symm.trans h12_
  have b15_ : r2 = true := by first | exact b13_ | simpa using b13_
  obtain ⟨⟨r3, r4, r5, r6, r7, k8, c9⟩, f16_, h17_⟩ := pullD_elim h14_
  replace f16_ := m_13_ok f16_
  obtain ⟨⟨r10, r11, r12, r13, r14⟩, f18_, h19_⟩ := pullD_elim h17_
  replace f18_ := m_12_ok f18_
  obtain ⟨r15, f20_, h21_⟩ := pullD_elim h19_
  replace f20_ := m_14_ok f20_
  obtain ⟨⟨r16, r17, r18, r19, r20, k21, c22⟩, f22_, h23_⟩ := pullD_elim h21_
  replace f22_ := m_13_ok f22_
  obtain ⟨r23, f24_, h25_⟩ := pullD_elim h23_
  replace f24_ := m_15_ok f24_
  by_cases b26_ : r23 ≠ r15
  · have h27_ := (if_pos b26_).symm.trans h25_
    obtain rfl := Option.some.inj h27_
    exact con_pc (op := true) (I := [3]) (sp := law3_sp) 3000 (bF 6 (bT 8 [])) [.one (.bool r0), .one (.bool r1), .one (.bool r2), .agg [iD r3, iD r4, iD r5, iD r6, iD r7, .list k8 c9], .tup [(shNK5D_0 r10 r11 r12 r13), iD r14], iD r15, .agg [iD r16, iD r17, iD r18, iD r19, iD r20, .list k21 c22], iD r23] [c_nn b5_, c_nn b10_, c_nn b10_, c_nn b10_, c_nn b10_, c_nn b15_, c_b b26_, c_b b26_, c_b b26_, c_b b26_, c_b b26_, c_b b26_, c_b b26_, c_T] [k_c f1_, k_c f6_, k_c f11_, k_c f16_, k_c f18_, k_c f20_, k_c f22_, k_c f24_] (by kernel_rfl)
  have h27_ := (if_neg b26_).symm.trans h25_
  have b28_ : r23 = r15 := by first | exact b26_ | simpa using b26_
  obtain ⟨⟨r24, k25, c26⟩, f29_, h30_⟩ := pullD_elim h27_
  replace f29_ := m_17_ok f29_
  obtain ⟨r27, f31_, h32_⟩ := pullD_elim h30_
  replace f31_ := m_16_ok f31_
  obtain ⟨r28, f33_, h34_⟩ := pullD_elim h32_
  replace f33_ := m_18_ok f33_
  by_cases b35_ : r27 ≠ r28
  · have h36_ := (if_pos b35_).symm.trans h34_
    obtain rfl := Option.some.inj h36_
    exact con_pc (op := true) (I := [3]) (sp := law3_sp) 3000 (bF 13 (bT 1 [])) [.one (.bool r0), .one (.bool r1), .one (.bool r2), .agg [iD r3, iD r4, iD r5, iD r6, iD r7, .list k8 c9], .tup [(shNK5D_0 r10 r11 r12 r13), iD r14], iD r15, .agg [iD r16, iD r17, iD r18, iD r19, iD r20, .list k21 c22], iD r23, .agg [iD r24, .list k25 c26], iD r27, iD r28] [c_nn b5_, c_nn b10_, c_nn b10_, c_nn b10_, c_nn b10_, c_nn b15_, c_bn b28_, c_bn b28_, c_bn b28_, c_bn b28_, c_bn b28_, c_bn b28_, c_bn b28_, c_b b35_] [k_c f1_, k_c f6_, k_c f11_, k_c f16_, k_c f18_, k_c f20_, k_c f22_, k_c f24_, k_c f29_, k_c f31_, k_c f33_] (by kernel_rfl)
  have h36_ := (if_neg b35_).symm.trans h34_
  have b37_ : r27 = r28 := by first | exact b35_ | simpa using b35_
  by_cases b38_ : r15 ≠ (0 : Int)
  · have h39_ := (if_pos b38_).symm.trans h36_
    by_cases b40_ : r14 = r15
    · have h41_ := (if_pos b40_).symm.trans h39_
      obtain rfl := Option.some.inj h41_
      exact con_pc (op := true) (I := [3]) (sp := law3_sp) 3000 (bF 14 (bT 5 [])) [.one (.bool r0), .one (.bool r1), .one (.bool r2), .agg [iD r3, iD r4, iD r5, iD r6, iD r7, .list k8 c9], .tup [(shNK5D_0 r10 r11 r12 r13), iD r14], iD r15, .agg [iD r16, iD r17, iD r18, iD r19, iD r20, .list k21 c22], iD r23, .agg [iD r24, .list k25 c26], iD r27, iD r28] [c_nn b5_, c_nn b10_, c_nn b10_, c_nn b10_, c_nn b10_, c_nn b15_, c_bn b28_, c_bn b28_, c_bn b28_, c_bn b28_, c_bn b28_, c_bn b28_, c_bn b28_, c_bn b37_, c_b b38_, c_e b40_, c_e b40_, c_e b40_, c_e b40_] [k_c f1_, k_c f6_, k_c f11_, k_c f16_, k_c f18_, k_c f20_, k_c f22_, k_c f24_, k_c f29_, k_c f31_, k_c f33_] (by kernel_rfl)
    have h41_ := (if_neg b40_).symm.trans h39_
    have b42_ : r14 ≠ r15 := by first | exact b40_ | simpa using b40_
    obtain rfl := Option.some.inj h41_
    exact con_pc (op := true) (I := [3]) (sp := law3_sp) 3000 (bF 14 (bT 1 (bF 4 []))) [.one (.bool r0), .one (.bool r1), .one (.bool r2), .agg [iD r3, iD r4, iD r5, iD r6, iD r7, .list k8 c9], .tup [(shNK5D_0 r10 r11 r12 r13), iD r14], iD r15, .agg [iD r16, iD r17, iD r18, iD r19, iD r20, .list k21 c22], iD r23, .agg [iD r24, .list k25 c26], iD r27, iD r28] [c_nn b5_, c_nn b10_, c_nn b10_, c_nn b10_, c_nn b10_, c_nn b15_, c_bn b28_, c_bn b28_, c_bn b28_, c_bn b28_, c_bn b28_, c_bn b28_, c_bn b28_, c_bn b37_, c_b b38_, c_en b42_, c_en b42_, c_en b42_, c_en b42_] [k_c f1_, k_c f6_, k_c f11_, k_c f16_, k_c f18_, k_c f20_, k_c f22_, k_c f24_, k_c f29_, k_c f31_, k_c f33_] (by kernel_rfl)
  have h39_ := (if_neg b38_).symm.trans h36_
  have b43_ : r15 = (0 : Int) := by first | exact b38_ | simpa using b38_
  obtain ⟨⟨r29, r30, r31, r32, r33⟩, f44_, h45_⟩ := pullD_elim h39_
  replace f44_ := m_19_ok f44_
  by_cases b46_ : r33 = false
  · have h47_ := (if_pos b46_).symm.trans h45_
    by_cases b48_ : r14 = (8 : Int)
    · have h49_ := (if_pos b48_).symm.trans h47_
      obtain rfl := Option.some.inj h49_
      exact con_pc (op := true) (I := [3]) (sp := law3_sp) 3000 (bF 15 (bT 5 [])) [.one (.bool r0), .one (.bool r1), .one (.bool r2), .agg [iD r3, iD r4, iD r5, iD r6, iD r7, .list k8 c9], .tup [(shNK5D_0 r10 r11 r12 r13), iD r14], iD r15, .agg [iD r16, iD r17, iD r18, iD r19, iD r20, .list k21 c22], iD r23, .agg [iD r24, .list k25 c26], iD r27, iD r28, .tup [(shNK5D_0 r29 r30 r31 r32), .one (.bool r33)]] [c_nn b5_, c_nn b10_, c_nn b10_, c_nn b10_, c_nn b10_, c_nn b15_, c_bn b28_, c_bn b28_, c_bn b28_, c_bn b28_, c_bn b28_, c_bn b28_, c_bn b28_, c_bn b37_, c_bn b43_, c_no b46_, c_e b48_, c_e b48_, c_e b48_, c_e b48_] [k_c f1_, k_c f6_, k_c f11_, k_c f16_, k_c f18_, k_c f20_, k_c f22_, k_c f24_, k_c f29_, k_c f31_, k_c f33_, k_c f44_] (by kernel_rfl)
    have h49_ := (if_neg b48_).symm.trans h47_
    have b50_ : r14 ≠ (8 : Int) := by first | exact b48_ | simpa using b48_
    obtain rfl := Option.some.inj h49_
    exact con_pc (op := true) (I := [3]) (sp := law3_sp) 3000 (bF 15 (bT 1 (bF 4 []))) [.one (.bool r0), .one (.bool r1), .one (.bool r2), .agg [iD r3, iD r4, iD r5, iD r6, iD r7, .list k8 c9], .tup [(shNK5D_0 r10 r11 r12 r13), iD r14], iD r15, .agg [iD r16, iD r17, iD r18, iD r19, iD r20, .list k21 c22], iD r23, .agg [iD r24, .list k25 c26], iD r27, iD r28, .tup [(shNK5D_0 r29 r30 r31 r32), .one (.bool r33)]] [c_nn b5_, c_nn b10_, c_nn b10_, c_nn b10_, c_nn b10_, c_nn b15_, c_bn b28_, c_bn b28_, c_bn b28_, c_bn b28_, c_bn b28_, c_bn b28_, c_bn b28_, c_bn b37_, c_bn b43_, c_no b46_, c_en b50_, c_en b50_, c_en b50_, c_en b50_] [k_c f1_, k_c f6_, k_c f11_, k_c f16_, k_c f18_, k_c f20_, k_c f22_, k_c f24_, k_c f29_, k_c f31_, k_c f33_, k_c f44_] (by kernel_rfl)
  have h47_ := (if_neg b46_).symm.trans h45_
  have b51_ : r33 = true := by first | exact b46_ | simpa using b46_
  by_cases b52_ : r14 = (0 : Int)
  · have h53_ := (if_pos b52_).symm.trans h47_
    obtain rfl := Option.some.inj h53_
    exact con_pc (op := true) (I := [3]) (sp := law3_sp) 3000 (bF 16 (bT 4 [])) [.one (.bool r0), .one (.bool r1), .one (.bool r2), .agg [iD r3, iD r4, iD r5, iD r6, iD r7, .list k8 c9], .tup [(shNK5D_0 r10 r11 r12 r13), iD r14], iD r15, .agg [iD r16, iD r17, iD r18, iD r19, iD r20, .list k21 c22], iD r23, .agg [iD r24, .list k25 c26], iD r27, iD r28, .tup [(shNK5D_0 r29 r30 r31 r32), .one (.bool r33)]] [c_nn b5_, c_nn b10_, c_nn b10_, c_nn b10_, c_nn b10_, c_nn b15_, c_bn b28_, c_bn b28_, c_bn b28_, c_bn b28_, c_bn b28_, c_bn b28_, c_bn b28_, c_bn b37_, c_bn b43_, c_nn b51_, c_e b52_, c_e b52_, c_e b52_, c_e b52_] [k_c f1_, k_c f6_, k_c f11_, k_c f16_, k_c f18_, k_c f20_, k_c f22_, k_c f24_, k_c f29_, k_c f31_, k_c f33_, k_c f44_] (by kernel_rfl)
  have h53_ := (if_neg b52_).symm.trans h47_
  have b54_ : r14 ≠ (0 : Int) := by first | exact b52_ | simpa using b52_
  obtain rfl := Option.some.inj h53_
  exact con_pc (op := true) (I := [3]) (sp := law3_sp) 3000 (bF 20 []) [.one (.bool r0), .one (.bool r1), .one (.bool r2), .agg [iD r3, iD r4, iD r5, iD r6, iD r7, .list k8 c9], .tup [(shNK5D_0 r10 r11 r12 r13), iD r14], iD r15, .agg [iD r16, iD r17, iD r18, iD r19, iD r20, .list k21 c22], iD r23, .agg [iD r24, .list k25 c26], iD r27, iD r28, .tup [(shNK5D_0 r29 r30 r31 r32), .one (.bool r33)]] [c_nn b5_, c_nn b10_, c_nn b10_, c_nn b10_, c_nn b10_, c_nn b15_, c_bn b28_, c_bn b28_, c_bn b28_, c_bn b28_, c_bn b28_, c_bn b28_, c_bn b28_, c_bn b37_, c_bn b43_, c_nn b51_, c_en b54_, c_en b54_, c_en b54_, c_en b54_] [k_c f1_, k_c f6_, k_c f11_, k_c f16_, k_c f18_, k_c f20_, k_c f22_, k_c f24_, k_c f29_, k_c f31_, k_c f33_, k_c f44_] (by kernel_rfl)
def m_3 (ds : List D) : Option D := pullD (α := Int × Int × Int × Int × Int × Nat × (List D) × Int × Nat × (List D)) (some (.tup ds)) (fun d => ((D.vi (D.at (D.at d 0) 0)), (D.vi (D.at (D.at d 0) 1)), (D.vi (D.at (D.at d 0) 2)), (D.vi (D.at (D.at d 0) 3)), (D.vi (D.at (D.at d 0) 4)), (D.ln (D.at (D.at d 0) 5)), (D.lc (D.at (D.at d 0) 5)), (D.vi (D.at (D.at d 1) 0)), (D.ln (D.at (D.at d 1) 1)), (D.lc (D.at (D.at d 1) 1)))) (fun (re, fa, fb, fc, fd, k, c, st, kb, cb) => .tup [.agg [iD re, iD fa, iD fb, iD fc, iD fd, .list k c], .agg [iD st, .list kb cb]]) fun (re, fa, fb, fc, fd, k, c, st, kb, cb) => law3_M re fa fb fc fd k c st kb cb
theorem m_3_ok {ds : List D} {r : D} (h : m_3 ds = some r) : Con 3 ds r := by
  unfold m_3 at h
  obtain ⟨⟨re, fa, fb, fc, fd, k, c, st, kb, cb⟩, e0, h0⟩ := pullD_elim h
  obtain rfl := tup_inj e0
  exact law3_M_ok re fa fb fc fd k c st kb cb h0
theorem m_3_eq (re fa fb fc fd : Int) (k : Nat) (c : List D) (st : Int) (kb : Nat) (cb : List D) : m_3 [.agg [iD re, iD fa, iD fb, iD fc, iD fd, .list k c], .agg [iD st, .list kb cb]] = law3_M re fa fb fc fd k c st kb cb := pullD_some (re, fa, fb, fc, fd, k, c, st, kb, cb) rfl rfl
end
end Go.Proofs.Ytjjbacbjdilhmaa
/- Figures and their times. -/
namespace Go.Proofs.Ytjjbacbjdilhmaa
open Go.Ev Go.RowKit
set_option maxRecDepth 100000
/-! ### Errors -/
def firstV : List Int → Int
  | [] => 0
  | x :: l => if x = 0 then firstV l else x
theorem first_go (k : Nat) : ∀ (pre l : List Int), k = (pre ++ l).length → k ≤ 1000000 → (∀ x ∈ pre, x = 0) →
    runR (firstOf_L2_S k ((pre ++ l).map iD)) (.next 0 [iD (pre.length : Int)]) = some (if firstV l = 0 then .out 0 [] else .out 1 [iD (firstV l)]) := by
  intro pre l
  induction l generalizing pre with
  | nil =>
    intro hk _ _
    rw [List.append_nil] at hk ⊢
    refine runR_exit ?_
    show firstOf_L2_S0 _ _ _ = _
    unfold firstOf_L2_S0
    rw [pullD_some (pre.length : Int) (by rfl) (by rfl), if_neg (by omega)]
  | cons x l ih =>
    intro hk hs hp
    have hg : (pre ++ x :: l)[pre.length]? = some x := by simp
    have hlt : pre.length < k := by rw [hk, List.length_append, List.length_cons]; omega
    by_cases hx : x = 0
    · have st : firstOf_L2_S k ((pre ++ x :: l).map iD) (.next 0 [iD (pre.length : Int)]) = some (.next 0 [iD (((pre ++ [x]).length : Nat) : Int)]) := by
        show firstOf_L2_S0 _ _ _ = _
        unfold firstOf_L2_S0
        rw [pullD_some (pre.length : Int) (by rfl) (by rfl), if_pos (by omega), guardP_pos (by omega), readW hg, pullI, if_neg (by simp [hx]), wrapJ _ (by omega) (by omega), List.length_append, List.length_singleton]
        rfl
      have h2 := ih (pre ++ [x]) (by rw [hk]; simp) hs (fun y hy => by
        rcases List.mem_append.1 hy with h | h
        · exact hp y h
        · simp at h; rw [h]; exact hx)
      rw [List.append_assoc, List.singleton_append] at h2
      rw [runR_next st, h2]
      simp [firstV, hx]
    · refine (runR_exit (j := 1) (es := [iD x]) ?_).trans ?_
      · show firstOf_L2_S0 _ _ _ = _
        unfold firstOf_L2_S0
        rw [pullD_some (pre.length : Int) (by rfl) (by rfl), if_pos (by omega), guardP_pos (by omega), readW hg, pullI, if_pos hx]
      · simp [firstV, hx]
theorem firstOf_eq (l : List Int) (hl : l.length ≤ 1000000) : m_50 [lD l] = some (iD (firstV l)) := by
  have h := first_go l.length [] l rfl hl (fun _ h => by cases h)
  simp only [List.nil_append, List.length_nil] at h
  have h : runR (firstOf_L2_S l.length (l.map iD)) (.next 0 [.one (.int .i64 0)]) = some (if firstV l = 0 then .out 0 [] else .out 1 [iD (firstV l)]) := h
  rw [m_50_eq]
  unfold firstOf_M
  by_cases h0 : firstV l = 0
  · rw [if_pos h0] at h
    rw [bindL_some h, if_pos rfl, pullD_some () (by rfl) (by rfl), h0]
  · rw [if_neg h0] at h
    rw [bindL_some h, if_neg (by decide), if_pos rfl, pullD_some (firstV l) (by rfl) (by rfl)]
theorem f2 (x y : Int) : m_50 [.list 2 [iD x, iD y]] = some (iD (firstV [x, y])) := firstOf_eq [x, y] (by simp)
theorem f3 (x y z : Int) : m_50 [.list 3 [iD x, iD y, iD z]] = some (iD (firstV [x, y, z])) := firstOf_eq [x, y, z] (by simp)
/-- A loop that looks for what is not so. -/
theorem scanB {n : Nat} {ok : Nat → Bool} {bad : List D} {S : Rd → Option Rd} (hs : ∀ i, i < n → S (.next 0 [iD (i : Int)]) = if ok i = true then some (.next 0 [iD ((i + 1 : Nat) : Int)]) else some (.out 1 bad)) (he : S (.next 0 [iD (n : Int)]) = some (.out 0 [])) :
    ∀ m i, i + m = n → runR S (.next 0 [iD (i : Int)]) = if (List.range' i m).all ok = true then some (.out 0 []) else some (.out 1 bad) := by
  intro m
  induction m with
  | zero =>
    intro i hi
    have : i = n := by omega
    subst this
    rw [runR_exit he]; rfl
  | succ m ih =>
    intro i hi
    have h1 := hs i (by omega)
    rw [List.range'_succ, List.all_cons]
    cases h0 : ok i with
    | true =>
      rw [h0, if_pos rfl] at h1
      rw [runR_next h1, ih (i + 1) (by omega), Bool.true_and]
    | false =>
      rw [h0, if_neg (by decide)] at h1
      rw [runR_exit h1, Bool.false_and, if_neg (by decide)]
/-- Are all pairs in order? -/
def ordE (l : List (Int × Int)) : Int := if (List.range' 0 l.length).all (fun i => decide (ta l i ≤ va l i)) = true then 0 else 9
theorem inOrder_eq (l : List (Int × Int)) (hl : l.length ≤ 1000000) : m_64 [lP l] = some (iD (ordE l)) := by
  rw [m_64_eq]
  unfold inOrder_M
  have h := scanB (n := l.length) (ok := fun i => decide (ta l i ≤ va l i)) (bad := [iD 9]) (S := inOrder_L2_S l.length (cP l)) (fun i hi => by
    show inOrder_L2_S0 _ _ _ = _
    unfold inOrder_L2_S0
    rw [pullD_some (i : Int) (by rfl) (by rfl), if_pos (by omega), guardP_pos (by omega), show ((i : Int).toNat) = i from rfl, readP hi, pullD_some (ta l i, va l i) (by rfl) (by rfl), natI (by omega)]
    dsimp only
    by_cases h : ta l i ≤ va l i
    · rw [if_neg (by omega), if_pos (by simpa using h)]
    · rw [if_pos (by omega), if_neg (by simpa using h)]) (by
    show inOrder_L2_S0 _ _ _ = _
    unfold inOrder_L2_S0
    rw [pullD_some (l.length : Int) (by rfl) (by rfl), if_neg (by omega)]) l.length 0 (by omega)
  rw [Int.natCast_zero] at h
  unfold ordE
  by_cases q : (List.range' 0 l.length).all (fun i => decide (ta l i ≤ va l i)) = true
  · rw [if_pos q] at h ⊢
    rw [bindL_some h, if_pos rfl, pullD_some () (by rfl) (by rfl)]
  · rw [if_neg q] at h ⊢
    rw [bindL_some h, if_neg (by decide), if_pos rfl, pullD_some (9 : Int) (by rfl) (by rfl)]
theorem ord1 (a b : Int) : m_64 [.list 1 [iD a, iD b]] = some (iD (if a ≤ b then 0 else 9)) := by
  have := inOrder_eq [(a, b)] (by simp)
  refine this.trans ?_
  congr 3
  unfold ordE
  simp [List.range', ta, va]
theorem within_eq (n lo hi : Int) : m_24 [iD n, iD lo, iD hi] = some (.one (.bool (decide (lo ≤ n ∧ n ≤ hi)))) := by
  rw [m_24_eq]
  unfold within_M
  by_cases h : lo ≤ n
  · rw [if_pos h]; simp [h]
  · rw [if_neg h]; simp [h]
/-! ### Rounded -/
/-! ### Figures -/
/-! ### Times -/
def stepE (n : Int) : Int := if 1 ≤ n ∧ n ≤ 1000000 then 0 else 2
theorem chkStep_eq (n : Int) : m_53 [iD n] = some (iD (stepE n)) := by
  rw [m_53_eq]
  unfold chkStep_M stepE
  repeat' split
  all_goals first | rfl | (exfalso; omega)
end Go.Proofs.Ytjjbacbjdilhmaa
/- Quotients, resistances. -/
namespace Go.Proofs.Ytjjbacbjdilhmaa
open Go.Ev Go.RowKit
set_option maxRecDepth 100000
/-! ### Divisors -/
/-- Where the division with a remainder ends. -/
def eu (a b : Int) : Int := if h : b = 0 then a else eu b (a.tmod b)
termination_by b.natAbs
decreasing_by
  rw [Int.natAbs_tmod]
  exact Nat.mod_lt _ (by omega)
theorem eu_zero (a : Int) : eu a 0 = a := by unfold eu; simp
theorem eu_step {a b : Int} (h : b ≠ 0) : eu a b = eu b (a.tmod b) := by
  conv => lhs; unfold eu
  rw [dif_neg h]
theorem eu_gcd (a b : Int) : (eu a b).natAbs = Int.gcd a b := by
  generalize hk : b.natAbs = k
  induction k using Nat.strongRecOn generalizing a b with
  | ind k ih =>
    by_cases h : b = 0
    · subst h; rw [eu_zero]; simp
    · have hlt : (a.tmod b).natAbs < b.natAbs := by rw [Int.natAbs_tmod]; exact Nat.mod_lt _ (by omega)
      rw [eu_step h, ih _ (by omega) b (a.tmod b) rfl]
      show Nat.gcd b.natAbs (a.tmod b).natAbs = Nat.gcd a.natAbs b.natAbs
      rw [Int.natAbs_tmod, Nat.gcd_comm a.natAbs, Nat.gcd_rec b.natAbs a.natAbs, Nat.gcd_comm]
def absW (r : Int) : Int := if IntKind.i64.wrap (0 - r) > r then IntKind.i64.wrap (0 - r) else r
theorem absW_eq {r : Int} (h : r.natAbs < 9223372036854775808) : absW r = (r.natAbs : Int) := by
  unfold absW
  rw [wrapJ _ (by omega) (by omega)]
  split <;> omega
theorem div_go (x y : Int) : ∀ (k : Nat) (a b : Int), b.natAbs ≤ k → runR (divisor_L1_S x y) (.next 0 [iD a, iD b]) = some (.out 0 [iD (eu a b)]) := by
  intro k
  induction k with
  | zero =>
    intro a b h
    have hb : b = 0 := by omega
    subst hb
    refine runR_exit ?_
    show divisor_L1_S0 x y _ = _
    unfold divisor_L1_S0
    rw [pullD_some (a, (0 : Int)) (by rfl) (by rfl)]
    dsimp only
    rw [if_neg (by simp), eu_zero]
  | succ k ih =>
    intro a b h
    by_cases hb : b = 0
    · exact ih a b (by omega)
    · have st : divisor_L1_S x y (.next 0 [iD a, iD b]) = some (.next 0 [iD b, iD (a.tmod b)]) := by
        show divisor_L1_S0 x y _ = _
        unfold divisor_L1_S0
        rw [pullD_some (a, b) (by rfl) (by rfl)]
        dsimp only
        rw [if_pos hb]
      have hlt : (a.tmod b).natAbs < b.natAbs := by rw [Int.natAbs_tmod]; exact Nat.mod_lt _ (by omega)
      rw [runR_next st, ih b (a.tmod b) (by omega), ← eu_step hb]
theorem divisor_eq (a b : Int) : m_98 [iD a, iD b] = some (iD (absW (eu a b))) := by
  rw [m_98_eq]
  unfold divisor_M
  rw [div_go a b b.natAbs a b (Nat.le_refl _), bindL_some rfl, if_pos rfl, pullD_some (eu a b) (by rfl) (by rfl)]
  rfl
theorem gcd_loop (x y : Int) : ∀ (k : Nat) (a b : Int), b.natAbs ≤ k → runR (gcd_L1_S x y) (.next 0 [iD a, iD b]) = some (.out 0 [iD (eu a b)]) := by
  intro k
  induction k with
  | zero =>
    intro a b h
    have hb : b = 0 := by omega
    subst hb
    refine runR_exit ?_
    show gcd_L1_S0 x y _ = _
    unfold gcd_L1_S0
    rw [pullD_some (a, (0 : Int)) (by rfl) (by rfl)]
    dsimp only
    rw [if_neg (by simp), eu_zero]
  | succ k ih =>
    intro a b h
    by_cases hb : b = 0
    · exact ih a b (by omega)
    · have st : gcd_L1_S x y (.next 0 [iD a, iD b]) = some (.next 0 [iD b, iD (a.tmod b)]) := by
        show gcd_L1_S0 x y _ = _
        unfold gcd_L1_S0
        rw [pullD_some (a, b) (by rfl) (by rfl)]
        dsimp only
        rw [if_pos hb]
      have hlt : (a.tmod b).natAbs < b.natAbs := by rw [Int.natAbs_tmod]; exact Nat.mod_lt _ (by omega)
      rw [runR_next st, ih b (a.tmod b) (by omega), ← eu_step hb]
theorem gcdI_eq (a b : Int) : m_99 [iD a, iD b] = some (iD (absW (eu a b))) := by
  rw [m_99_eq]
  unfold gcd_M
  rw [gcd_loop a b b.natAbs a b (Nat.le_refl _), bindL_some rfl, if_pos rfl, pullD_some (eu a b) (by rfl) (by rfl), m_116_eq]
  unfold size_M
  rw [pullI]
  rfl
theorem absW_gcd {a b : Int} (h : 0 < b) (h2 : b < 9223372036854775808) : absW (eu a b) = ((Int.gcd a b : Nat) : Int) := by
  have h1 : Int.gcd a b ≤ b.natAbs := Nat.le_of_dvd (by omega) (Int.gcd_dvd_natAbs_right a b)
  rw [absW_eq (by rw [eu_gcd]; omega), eu_gcd]
def rdN (n d : Int) : Int := IntKind.i64.wrap (n.tdiv (absW (eu n d)))
def rdD (n d : Int) : Int := IntKind.i64.wrap (d.tdiv (absW (eu n d)))
theorem absW_pos {n d : Int} (hd : 0 < d) (h2 : d < 9223372036854775808) : absW (eu n d) ≠ 0 := by
  rw [absW_gcd hd h2]
  have : 0 < Int.gcd n d := Int.gcd_pos_of_ne_zero_right _ (by omega)
  omega
theorem reduced_eq (n : Int) {d : Int} (hd : 0 < d) (h2 : d < 9223372036854775808) : m_72 [iD n, iD d] = some (.agg [iD (rdN n d), iD (rdD n d)]) := by
  rw [m_72_eq]
  unfold reduced_M
  rw [divisor_eq, pullI, guardP_pos (absW_pos hd h2)]
  rfl
/-! ### Ranges -/
theorem gv2 (x : Int) : firstV [2, x] = 2 := rfl
theorem gv0 (x : Int) : firstV [0, x] = x := by
  unfold firstV firstV
  simp only [if_true]
  split
  · rename_i h; rw [h]; rfl
  · rfl
theorem n2 : ((2 : Int) ≠ 0) = True := by decide
theorem n0 : ((0 : Int) ≠ 0) = False := by decide
theorem rs1 (a b c d : Int) : ratioOf_M_s1 a b c d = some (.tup [.agg [iD 0, iD 0, iD 0, iD 0], iD 2]) := by
  unfold ratioOf_M_s1
  simp only [ord1, f2, pullI, gv2, n2, if_true, ite_self]
theorem rs2 (a b c d : Int) : ratioOf_M_s2 a b c d = some (.tup [.agg [iD 0, iD 0, iD 0, iD 0], iD 2]) := by
  unfold ratioOf_M_s2
  simp only [ord1, f2, pullI, gv2, n2, if_true, ite_self]
/-! ### Resistances -/
theorem tdiv_nat {n : Int} {g : Nat} (hn : 0 ≤ n) : 0 ≤ n.tdiv g ∧ n.tdiv g ≤ n := by
  refine ⟨Int.tdiv_nonneg hn (Int.natCast_nonneg g), ?_⟩
  rw [Int.tdiv_eq_ediv_of_nonneg hn]
  exact Int.ediv_le_self _ hn
theorem rd_ok {n d : Int} (hn : 0 ≤ n) (h1 : n < 9223372036854775808) (hd : 0 < d) (h2 : d < 9223372036854775808) : rdN n d = n.tdiv ((Int.gcd n d : Nat) : Int) ∧ rdD n d = d.tdiv ((Int.gcd n d : Nat) : Int) ∧ 0 ≤ rdN n d ∧ 1 ≤ rdD n d := by
  unfold rdN rdD
  rw [absW_gcd hd h2]
  obtain ⟨a1, a2⟩ := tdiv_nat (g := Int.gcd n d) hn
  obtain ⟨b1, b2⟩ := tdiv_nat (g := Int.gcd n d) (show 0 ≤ d by omega)
  rw [wrapJ _ (by omega) (by omega), wrapJ _ (by omega) (by omega)]
  refine ⟨rfl, rfl, a1, ?_⟩
  have hg : 0 < Int.gcd n d := Int.gcd_pos_of_ne_zero_right _ (by omega)
  have hle : Int.gcd n d ≤ d.natAbs := Nat.le_of_dvd (by omega) (Int.gcd_dvd_natAbs_right n d)
  rw [Int.tdiv_eq_ediv_of_nonneg (by omega)]
  exact (Int.le_ediv_iff_mul_le (by omega)).2 (by omega)
theorem tooLarge_eq (n d : Int) : m_48 [.agg [iD n, iD d]] = some (.one (.bool (decide (¬ (n ≤ 1000000000 ∧ d ≤ 1000000000))))) := by
  rw [m_48_eq]
  unfold tooLarge_M
  congr 3
  rw [Bool.eq_iff_iff]
  simp only [decide_eq_true_eq]
  split <;> omega
theorem isSmall_eq (n d : Int) : m_77 [.agg [iD n, iD d]] = some (.one (.bool (decide (-1000000000 ≤ n ∧ n ≤ 1000000000 ∧ 1 ≤ d ∧ d ≤ 1000000000)))) := by
  rw [m_77_eq]
  unfold isSmall_M
  rw [within_eq, pullB, within_eq, pullB]
  by_cases h : -1000000000 ≤ n ∧ n ≤ 1000000000
  · rw [if_pos (by simpa using h)]
    congr 3
    rw [Bool.eq_iff_iff]; simp only [decide_eq_true_eq]; omega
  · rw [if_neg (by simpa using h)]
    congr 3
    rw [Bool.eq_iff_iff]; simp only [decide_eq_true_eq]
    constructor
    · intro h; cases h
    · omega
end Go.Proofs.Ytjjbacbjdilhmaa
/- Rules, records: what is checked. -/
namespace Go.Proofs.Ytjjbacbjdilhmaa
open Go.Ev Go.RowKit
set_option maxRecDepth 100000
/-! ### Factors -/
def lowB (n d : Int) : Bool := decide (0 < d ∧ absW (eu n d) = 1)
theorem isLowest_eq (n d : Int) : m_88 [.agg [iD n, iD d]] = some (.one (.bool (lowB n d))) := by
  rw [m_88_eq]
  unfold isLowest_M lowB
  by_cases h : d > 0
  · rw [if_pos h, gcdI_eq, pullI]
    congr 3
    rw [Bool.eq_iff_iff]; simp [show 0 < d from h]
  · rw [if_neg h]
    congr 3
    rw [Bool.eq_iff_iff]; simp [show ¬ 0 < d from h]
theorem isReduced_eq (n d : Int) : m_90 [.agg [iD n, iD d]] = some (.one (.bool (lowB n d))) := by
  rw [m_90_eq]
  unfold isReduced_M lowB
  by_cases h : d > 0
  · rw [if_pos h, divisor_eq, pullI]
    congr 3
    rw [Bool.eq_iff_iff]; simp [show 0 < d from h]
  · rw [if_neg h]
    congr 3
    rw [Bool.eq_iff_iff]; simp [show ¬ 0 < d from h]
theorem lowB_pos {n d : Int} (h : lowB n d = true) : 0 < d := by
  unfold lowB at h
  simp only [decide_eq_true_eq] at h
  exact h.1
def facR (x : Q4) : Prop := 1 ≤ x.a ∧ x.a ≤ 1000 ∧ 1 ≤ x.b ∧ x.b ≤ 1000 ∧ 1 ≤ x.c ∧ x.c ≤ 1000 ∧ 1 ≤ x.d ∧ x.d ≤ 1000
instance (x : Q4) : Decidable (facR x) := by unfold facR; infer_instance
/-- Why a factor is refused. -/
def facE (x : Q4) : Int := if lowB x.a x.b = true ∧ lowB x.c x.d = true then (if facR x then (if x.a * x.d ≤ x.c * x.b then 0 else 9) else 2) else 3
theorem mulK {x y : Int} (h1 : 1 ≤ x) (h2 : x ≤ 1000) (h3 : 1 ≤ y) (h4 : y ≤ 1000) : 0 ≤ x * y ∧ x * y ≤ 1000000 := ⟨Int.mul_nonneg (by omega) (by omega), by
  have := Int.mul_le_mul h2 h4 (by omega) (by omega : (0 : Int) ≤ 1000)
  omega⟩
theorem isLess_eq {n d m e : Int} (h1 : 0 ≤ n * e) (h2 : n * e ≤ 1000000) (h3 : 0 ≤ m * d) (h4 : m * d ≤ 1000000) : m_91 [.agg [iD n, iD d], .agg [iD m, iD e]] = some (.one (.bool (decide (n * e < m * d)))) := by
  rw [m_91_eq]
  unfold isLess_M
  rw [wrapJ (n * e) (by omega) (by omega), wrapJ (m * d) (by omega) (by omega)]
theorem cmpI_eq {n d m e : Int} (h1 : 0 ≤ n * e) (h2 : n * e ≤ 1000000) (h3 : 0 ≤ m * d) (h4 : m * d ≤ 1000000) : m_89 [.agg [iD n, iD d], .agg [iD m, iD e]] = some (iD (if n * e < m * d then -1 else if n * e > m * d then 1 else 0)) := by
  rw [m_89_eq]
  unfold cmpI_M
  rw [wrapJ (n * e) (by omega) (by omega), wrapJ (m * d) (by omega) (by omega)]
  repeat' split
  all_goals rfl
theorem facE3 {x : Q4} (h : lowB x.a x.b = false ∨ lowB x.c x.d = false) : facE x = 3 := by
  unfold facE
  rw [if_neg]
  rcases h with h | h <;> simp [h]
theorem facE2 {x : Q4} (h1 : lowB x.a x.b = true) (h2 : lowB x.c x.d = true) (h : ¬ facR x) : facE x = 2 := by
  unfold facE
  rw [if_pos ⟨h1, h2⟩, if_neg h]
theorem chkFactor_eq (p q u v : Int) : m_52 [.agg [iD p, iD q, iD u, iD v]] = some (iD (facE ⟨p, q, u, v⟩)) := by
  rw [m_52_eq]
  unfold chkFactor_M
  rw [isReduced_eq, pullB, isReduced_eq, pullB]
  cases b1 : lowB p q with
  | false => rw [if_pos rfl, facE3 (.inl b1)]
  | true =>
    rw [if_neg (by decide)]
    cases b2 : lowB u v with
    | false => rw [if_pos rfl, facE3 (.inr b2)]
    | true =>
      rw [if_neg (by decide)]
      by_cases g : facR ⟨p, q, u, v⟩
      · have g' := g
        unfold facR at g'
        simp only at g'
        obtain ⟨k1, k2⟩ := mulK (x := p) (y := v) (by omega) (by omega) (by omega) (by omega)
        obtain ⟨k3, k4⟩ := mulK (x := u) (y := q) (by omega) (by omega) (by omega) (by omega)
        rw [if_neg (by omega), if_neg (by omega), if_neg (by omega), if_neg (by omega), if_neg (by omega), if_neg (by omega), if_neg (by omega), if_neg (by omega), isLess_eq k3 k4 k1 k2, pullB]
        have hE : facE ⟨p, q, u, v⟩ = if p * v ≤ u * q then 0 else 9 := by
          unfold facE
          rw [if_pos ⟨b1, b2⟩, if_pos g]
        rw [hE]
        by_cases o : p * v ≤ u * q
        · rw [if_pos o, if_neg (by simp; omega)]
        · rw [if_neg o, if_pos (by simp; omega)]
      · rw [facE2 b1 b2 g]
        unfold facR at g
        simp only at g
        by_cases q0 : p < 1
        · rw [if_pos q0]
        rw [if_neg q0]
        by_cases q1 : p > 1000
        · rw [if_pos q1]
        rw [if_neg q1]
        by_cases q2 : q < 1
        · rw [if_pos q2]
        rw [if_neg q2]
        by_cases q3 : q > 1000
        · rw [if_pos q3]
        rw [if_neg q3]
        by_cases q4 : u < 1
        · rw [if_pos q4]
        rw [if_neg q4]
        by_cases q5 : u > 1000
        · rw [if_pos q5]
        rw [if_neg q5]
        by_cases q6 : v < 1
        · rw [if_pos q6]
        rw [if_neg q6, if_pos (by omega)]
theorem facErr_eq (p q u v : Int) : m_49 [.agg [iD p, iD q, iD u, iD v]] = some (iD (facE ⟨p, q, u, v⟩)) := by
  rw [m_49_eq]
  unfold facErr_M
  rw [isLowest_eq, pullB, isLowest_eq, pullB, within_eq, pullB, within_eq, pullB]
  cases b1 : lowB p q with
  | false => rw [if_pos rfl, facE3 (.inl b1)]
  | true =>
    rw [if_neg (by decide)]
    cases b2 : lowB u v with
    | false => rw [if_pos rfl, facE3 (.inr b2)]
    | true =>
      have hq := lowB_pos b1
      have hv := lowB_pos b2
      rw [if_neg (by decide)]
      by_cases g : facR ⟨p, q, u, v⟩
      · have g' := g
        unfold facR at g'
        simp only at g'
        obtain ⟨k1, k2⟩ := mulK (x := p) (y := v) (by omega) (by omega) (by omega) (by omega)
        obtain ⟨k3, k4⟩ := mulK (x := u) (y := q) (by omega) (by omega) (by omega) (by omega)
        rw [if_neg (by simp; omega), if_neg (by simp; omega), if_neg (by omega), if_neg (by omega), cmpI_eq k1 k2 k3 k4, pullI]
        have hE : facE ⟨p, q, u, v⟩ = if p * v ≤ u * q then 0 else 9 := by
          unfold facE
          rw [if_pos ⟨b1, b2⟩, if_pos g]
        rw [hE]
        by_cases o : p * v ≤ u * q
        · rw [if_pos (c := p * v ≤ u * q) o, if_neg]
          split
          · decide
          · rw [if_neg (by omega)]; decide
        · rw [if_neg (c := p * v ≤ u * q) o, if_neg (c := p * v < u * q) (by omega), if_pos (c := p * v > u * q) (by omega), if_pos (by decide)]
      · rw [facE2 b1 b2 g]
        unfold facR at g
        simp only at g
        by_cases q0 : 1 ≤ p ∧ p ≤ 1000
        · rw [if_neg (by simp; omega)]
          by_cases q1 : 1 ≤ u ∧ u ≤ 1000
          · rw [if_neg (by simp; omega)]
            by_cases q2 : q > 1000
            · rw [if_pos q2]
            rw [if_neg q2, if_pos (by omega)]
          · rw [if_pos (by simp; omega)]
        · rw [if_pos (by simp; omega)]
/-! ### Rules -/
def fstE (e : Nat → Int) : Nat → Nat → Int
  | 0, _ => 0
  | m + 1, i => if e i = 0 then fstE e m (i + 1) else e i
theorem scanF {n : Nat} {e : Nat → Int} {S : Rd → Option Rd} (hs : ∀ i, i < n → S (.next 0 [iD (i : Int)]) = if e i = 0 then some (.next 0 [iD ((i + 1 : Nat) : Int)]) else some (.out 1 [iD (e i)])) (he : S (.next 0 [iD (n : Int)]) = some (.out 0 [])) :
    ∀ m i, i + m = n → runR S (.next 0 [iD (i : Int)]) = if fstE e m i = 0 then some (.out 0 []) else some (.out 1 [iD (fstE e m i)]) := by
  intro m
  induction m with
  | zero =>
    intro i hi
    have : i = n := by omega
    subst this
    rw [runR_exit he]; rfl
  | succ m ih =>
    intro i hi
    have h1 := hs i (by omega)
    unfold fstE
    by_cases h0 : e i = 0
    · rw [if_pos h0] at h1
      rw [runR_next h1, ih (i + 1) (by omega), if_pos h0]
    · rw [if_neg h0] at h1
      rw [runR_exit h1, if_neg h0, if_neg h0]
theorem fstE_zero {e : Nat → Int} : ∀ {m i : Nat}, fstE e m i = 0 → ∀ j, i ≤ j → j < i + m → e j = 0
  | 0, i, _, j, h1, h2 => by omega
  | m + 1, i, h, j, h1, h2 => by
    unfold fstE at h
    split at h
    · rename_i h0
      rcases Nat.lt_or_ge i j with h3 | h3
      · exact fstE_zero h j (by omega) (by omega)
      · have : j = i := by omega
        subst this; exact h0
    · contradiction
abbrev ruD (re : Int) (f : Q4) (l : List Q4) : D := .agg [iD re, iD f.a, iD f.b, iD f.c, iD f.d, lQ l]
abbrev chE (l : List Q4) : Int := fstE (fun i => facE (qAt l i)) l.length 0
/-- Why rules are refused. -/
def rulE (re : Int) (f : Q4) (l : List Q4) : Int := if 0 ≤ re ∧ re ≤ 100 then (if facE f = 0 then (if 4 < l.length then 8 else chE l) else facE f) else 2
theorem chkError_eq (n : Int) : m_51 [iD n] = some (iD (if 0 ≤ n ∧ n ≤ 100 then 0 else 2)) := by
  rw [m_51_eq]
  unfold chkError_M
  repeat' split
  all_goals first | rfl | (exfalso; omega)
theorem chkRules_eq (re : Int) (f : Q4) (l : List Q4) (hl : l.length ≤ 1000) : m_15 [ruD re f l] = some (iD (rulE re f l)) := by
  rw [m_15_eq]
  unfold chkRules_M rulE
  have h1 : m_52 [shNK5_0 f.a f.b f.c f.d] = _ := chkFactor_eq f.a f.b f.c f.d
  rw [chkError_eq, pullI, h1, pullI, f2, pullI]
  by_cases g : 0 ≤ re ∧ re ≤ 100
  · rw [if_pos g, gv0, if_pos g]
    by_cases g2 : facE f = 0
    · have g2' : facE ⟨f.a, f.b, f.c, f.d⟩ = 0 := g2
      rw [if_pos g2, if_neg (fun h => h g2')]
      by_cases g3 : 4 < l.length
      · rw [if_pos g3, if_pos (by omega)]
      · rw [if_neg g3, if_neg (by omega)]
        have h := fun x0 x1 x2 => scanF (n := l.length) (e := fun i => facE (qAt l i)) (S := chkRules_L7_S re f.a f.b f.c f.d l.length (cQ l) x0 x1 x2) (fun i hi => by
          rw [chkRules_L7_S_0]
          unfold chkRules_L7_S0
          rw [pullD_some (i : Int) (by rfl) (by rfl), if_pos (by omega), guardP_pos (by omega), show ((i : Int).toNat) = i from rfl, readQ hi, pullD_some ((qAt l i).a, (qAt l i).b, (qAt l i).c, (qAt l i).d) (by rfl) (by rfl)]
          dsimp only
          have h2 : m_52 [shNK5_0 (qAt l i).a (qAt l i).b (qAt l i).c (qAt l i).d] = _ := chkFactor_eq (qAt l i).a (qAt l i).b (qAt l i).c (qAt l i).d
          rw [h2, pullI, natI (by omega)]
          by_cases q : facE (qAt l i) = 0
          · rw [if_pos q, if_neg (fun h => h q)]
          · rw [if_neg q, if_pos q]) (by
          rw [chkRules_L7_S_0]
          unfold chkRules_L7_S0
          rw [pullD_some (l.length : Int) (by rfl) (by rfl), if_neg (by omega)]) l.length 0 (by omega)
        simp only [Int.natCast_zero] at h
        by_cases q : chE l = 0
        · rw [bindL_some ((h _ _ _).trans (if_pos q)), if_pos rfl, pullD_some () (by rfl) (by rfl), q]
        · rw [bindL_some ((h _ _ _).trans (if_neg q)), if_neg (by decide), if_pos rfl, pullD_some (chE l) (by rfl) (by rfl)]
    · have g2' : facE ⟨f.a, f.b, f.c, f.d⟩ ≠ 0 := g2
      rw [if_neg g2, if_pos g2']
  · rw [if_neg g, gv2, if_neg g, if_pos (by decide)]
theorem rulesErr_eq (re : Int) (f : Q4) (l : List Q4) (hl : l.length ≤ 1000) : m_14 [ruD re f l] = some (iD (rulE re f l)) := by
  rw [m_14_eq]
  unfold rulesErr_M rulE
  have h1 : m_49 [shNK5_0 f.a f.b f.c f.d] = _ := facErr_eq f.a f.b f.c f.d
  rw [within_eq, pullB, h1, pullI]
  by_cases g : 0 ≤ re ∧ re ≤ 100
  · rw [if_neg (by simp; omega), if_pos g]
    by_cases g2 : facE f = 0
    · have g2' : facE ⟨f.a, f.b, f.c, f.d⟩ = 0 := g2
      rw [if_pos g2, if_neg (fun h => h g2')]
      by_cases g3 : 4 < l.length
      · rw [if_pos g3, if_pos (by omega)]
      · rw [if_neg g3, if_neg (by omega)]
        have h := fun x0 x1 => scanF (n := l.length) (e := fun i => facE (qAt l i)) (S := rulesErr_L9_S re f.a f.b f.c f.d l.length (cQ l) x0 x1) (fun i hi => by
          rw [rulesErr_L9_S_0]
          unfold rulesErr_L9_S0
          rw [pullD_some (i : Int) (by rfl) (by rfl), if_pos (by omega), guardP_pos (by omega), show ((i : Int).toNat) = i from rfl, readQ hi, pullD_some ((qAt l i).a, (qAt l i).b, (qAt l i).c, (qAt l i).d) (by rfl) (by rfl)]
          dsimp only
          have h2 : m_49 [shNK5_0 (qAt l i).a (qAt l i).b (qAt l i).c (qAt l i).d] = _ := facErr_eq (qAt l i).a (qAt l i).b (qAt l i).c (qAt l i).d
          rw [h2, pullI, natI (by omega)]
          by_cases q : facE (qAt l i) = 0
          · rw [if_pos q, if_neg (fun h => h q)]
          · rw [if_neg q, if_pos q]) (by
          rw [rulesErr_L9_S_0]
          unfold rulesErr_L9_S0
          rw [pullD_some (l.length : Int) (by rfl) (by rfl), if_neg (by omega)]) l.length 0 (by omega)
        simp only [Int.natCast_zero] at h
        by_cases q : chE l = 0
        · rw [bindL_some ((h _ _).trans (if_pos q)), if_pos rfl, pullD_some () (by rfl) (by rfl), q]
        · rw [bindL_some ((h _ _).trans (if_neg q)), if_neg (by decide), if_pos rfl, pullD_some (chE l) (by rfl) (by rfl)]
    · have g2' : facE ⟨f.a, f.b, f.c, f.d⟩ ≠ 0 := g2
      rw [if_neg g2, if_pos g2']
  · rw [if_pos (by simp; omega), if_neg g]
theorem copyRules_eq (re : Int) (f : Q4) (l : List Q4) (hl : l.length ≤ 1000) : m_13 [ruD re f l] = some (ruD re f l) := by
  rw [m_13_eq]
  unfold copyRules_M
  rw [guardP_pos (by omega), guardP_pos (cQ_len l)]
/-! ### Records -/
abbrev reD (st : Int) (l : List Int) : D := .agg [iD st, lD l]
/-- Why a record is refused. -/
def recE (st : Int) (l : List Int) : Int := if 1 ≤ st ∧ st ≤ 1000000 then (if l.length < 3 then 10 else if 64 < l.length then 8 else if allIn (-4096) 4096 l = true then 0 else 2) else 2
theorem copyInts_eq (l : List Int) (hl : l.length ≤ 1000) : m_56 [lD l] = some (lD l) := by
  rw [m_56_eq]
  unfold copyInts_M
  rw [guardP_pos ⟨cells_int l, by omega, by omega, by omega⟩, guardP_pos (by simp), guardP_pos ⟨by simp, by omega⟩, Nat.zero_add]
theorem copyRecord_eq (st : Int) (l : List Int) (hl : l.length ≤ 1000) : m_17 [reD st l] = some (reD st l) := by
  rw [m_17_eq]
  unfold copyRecord_M
  rw [copyInts_eq l hl, pullD_some (l.length, l.map iD) (by rfl) (by rfl)]
theorem chkCount_eq (n : Nat) : m_54 [iD (n : Int)] = some (iD (if n < 3 then 10 else if 64 < n then 8 else 0)) := by
  rw [m_54_eq]
  unfold chkCount_M
  by_cases h1 : n < 3
  · rw [if_pos h1, if_pos (by omega)]
  rw [if_neg h1, if_neg (by omega)]
  by_cases h2 : 64 < n
  · rw [if_pos h2, if_pos (by omega)]
  · rw [if_neg h2, if_neg (by omega)]
theorem chkRecord_eq (st : Int) (l : List Int) (hl : l.length ≤ 1000) : m_16 [reD st l] = some (iD (recE st l)) := by
  rw [m_16_eq]
  unfold chkRecord_M recE
  rw [chkStep_eq, pullI, chkCount_eq, pullI, f2, pullI]
  unfold stepE
  by_cases g : 1 ≤ st ∧ st ≤ 1000000
  · rw [if_pos g, if_pos g, gv0]
    by_cases g1 : l.length < 3
    · rw [if_pos g1, if_pos g1, if_pos (by decide)]
    rw [if_neg g1, if_neg g1]
    by_cases g2 : 64 < l.length
    · rw [if_pos g2, if_pos g2, if_pos (by decide)]
    rw [if_neg g2, if_neg g2, if_neg (by decide)]
    have h := fun x0 x1 => scanIn l (-4096) 4096 (chkRecord_L97_2_S st l.length (l.map iD) x0 x1) (.out 1 [iD 2]) (fun _ _ e => by cases e) (fun i hi => by
      rw [chkRecord_L97_2_S_0]
      unfold chkRecord_L97_2_S0
      rw [pullD_some (i : Int) (by rfl) (by rfl), if_pos (by omega), guardP_pos (by omega), readA hi, pullD_some (at' l i) (by rfl) (by rfl), natI (by omega)]
      by_cases q : -4096 ≤ at' l i ∧ at' l i ≤ 4096
      · rw [if_neg (by omega), if_neg (by omega), if_pos q]
      · rw [if_neg q]
        by_cases q1 : at' l i < -4096
        · rw [if_pos q1]
        · rw [if_neg q1, if_pos (by omega)]) (by
      rw [chkRecord_L97_2_S_0]
      unfold chkRecord_L97_2_S0
      rw [pullD_some (l.length : Int) (by rfl) (by rfl), if_neg (by omega)])
    by_cases q : allIn (-4096) 4096 l = true
    · rw [if_pos q, bindL_some ((h _ _).trans (if_pos q)), if_pos rfl, pullD_some () (by rfl) (by rfl)]
    · rw [if_neg q, bindL_some ((h _ _).trans (if_neg q)), if_neg (by decide), if_pos rfl, pullD_some (2 : Int) (by rfl) (by rfl)]
  · rw [if_neg g, if_neg g, gv2, if_pos (by decide)]
theorem recErr_eq (st : Int) (l : List Int) (hl : l.length ≤ 1000) : m_18 [reD st l] = some (iD (recE st l)) := by
  rw [m_18_eq]
  unfold recErr_M recE
  rw [within_eq, pullB]
  by_cases g : 1 ≤ st ∧ st ≤ 1000000
  · rw [if_neg (by simp; omega), if_pos g]
    by_cases g1 : l.length < 3
    · rw [if_pos g1, if_pos (by omega)]
    rw [if_neg g1, if_neg (by omega)]
    by_cases g2 : 64 < l.length
    · rw [if_pos g2, if_pos (by omega)]
    rw [if_neg g2, if_neg (by omega)]
    have h := fun x0 => scanIn l (-4096) 4096 (recErr_L8_S st l.length (l.map iD) x0) (.out 1 [iD 2]) (fun _ _ e => by cases e) (fun i hi => by
      rw [recErr_L8_S_0]
      unfold recErr_L8_S0
      rw [pullD_some (i : Int) (by rfl) (by rfl), if_pos (by omega), guardP_pos (by omega), readA hi, pullD_some (at' l i) (by rfl) (by rfl), within_eq, pullB, natI (by omega)]
      by_cases q : -4096 ≤ at' l i ∧ at' l i ≤ 4096
      · rw [if_neg (by simp [q]), if_pos q]
      · rw [if_pos (by simpa using q), if_neg q]) (by
      rw [recErr_L8_S_0]
      unfold recErr_L8_S0
      rw [pullD_some (l.length : Int) (by rfl) (by rfl), if_neg (by omega)])
    by_cases q : allIn (-4096) 4096 l = true
    · rw [if_pos q, bindL_some ((h _).trans (if_pos q)), if_pos rfl, pullD_some () (by rfl) (by rfl)]
    · rw [if_neg q, bindL_some ((h _).trans (if_neg q)), if_neg (by decide), if_pos rfl, pullD_some (2 : Int) (by rfl) (by rfl)]
  · rw [if_pos (by simp; omega), if_neg g]
theorem few_eq (st : Int) (l : List Int) : m_10 [reD st l] = some (.one (.bool (decide ((l.length : Int) ≤ 70)))) := by
  rw [m_10_eq]
  rfl
theorem fewF_eq (re : Int) (f : Q4) (l : List Q4) : m_11 [ruD re f l] = some (.one (.bool (decide ((l.length : Int) ≤ 6)))) := by
  rw [m_11_eq]
  rfl
end Go.Proofs.Ytjjbacbjdilhmaa
/- Numbers of any size: digits. -/
namespace Go.Proofs.Ytjjbacbjdilhmaa
open Go.Ev Go.RowKit
set_option maxRecDepth 100000
theorem wrapI (x : Int) (h1 : -9223372036854775808 ≤ x) (h2 : x < 9223372036854775808) : IntKind.i64.wrap x = x := by
  unfold IntKind.wrap
  show (if (true && _) then _ else _) = _
  simp only [Bool.true_and, decide_eq_true_eq]
  show (if x % 18446744073709551616 ≥ 9223372036854775808 then x % 18446744073709551616 - 18446744073709551616 else x % 18446744073709551616) = x
  split <;> omega
theorem trimmed_eq (l : List Int) (hl : l.length ≤ 1000000000000) : m_120 [lD l] = some (lD (l.take (keep l))) := by
  rw [m_120_eq]
  unfold w_trimmed_M
  have hk := keep_le l
  have h1 : runR (w_trimmed_L2_S l.length (l.map iD)) (.next 0 [iD (l.length : Int)]) = runR (w_trimmed_L2_S l.length (l.map iD)) (.next 0 [iD (keep l : Int)]) := by
    have := runR_scan (S := w_trimmed_L2_S l.length (l.map iD)) (fun _ => 0) (fun j => [iD ((l.length - j : Nat) : Int)]) (Nat.zero_le (l.length - keep l)) (fun j _ hj => by
      show w_trimmed_L2_S0 _ _ _ = _
      unfold w_trimmed_L2_S0
      rw [pullD_some ((l.length - j : Nat) : Int) (by rfl) (by rfl)]
      have hi : l.length - j - 1 < l.length := by omega
      have e : IntKind.i64.wrap (((l.length - j : Nat) : Int) - 1) = ((l.length - (j + 1) : Nat) : Int) := by rw [wrapI _ (by omega) (by omega)]; omega
      have h0 : l[l.length - (j + 1)]? = some 0 := by
        have h3 : l.length - (j + 1) < l.length := by omega
        rw [List.getElem?_eq_getElem h3]
        rw [keep_zero (i := l.length - (j + 1)) (by omega) (List.getElem?_eq_getElem h3)]
      rw [if_pos (by omega), e, guardP_pos (by omega), readW h0, pullD_some (0 : Int) (by rfl) (by rfl), if_pos rfl])
    simp only [Nat.sub_zero] at this
    rw [this, show l.length - (l.length - keep l) = keep l by omega]
  have h2 : runR (w_trimmed_L2_S l.length (l.map iD)) (.next 0 [iD (keep l : Int)]) = some (.out 0 [iD (keep l : Int)]) := runR_exit (by
    show w_trimmed_L2_S0 _ _ _ = _
    unfold w_trimmed_L2_S0
    rw [pullD_some (keep l : Int) (by rfl) (by rfl)]
    rcases Nat.eq_zero_or_pos (keep l) with h0 | h0
    · rw [if_neg (by omega)]
    · obtain ⟨d, hd, hne⟩ := keep_last h0
      have e : IntKind.i64.wrap ((keep l : Int) - 1) = ((keep l - 1 : Nat) : Int) := by rw [wrapI _ (by omega) (by omega)]; omega
      rw [if_pos (by omega), e, guardP_pos (by omega), readW hd, pullD_some d (by rfl) (by rfl), if_neg hne])
  rw [bindL_some (h1.trans h2), if_pos rfl, pullD_some (keep l : Int) (by rfl) (by rfl)]
  rw [guardP_pos (by refine ⟨by omega, by omega, by omega, by simp⟩)]
  have hlen : (l.take (keep l)).length = keep l := by rw [List.length_take]; omega
  simp only [lD, hlen, Int.toNat_natCast, Int.toNat_zero, Nat.sub_zero, Nat.zero_mul, Nat.mul_one, List.drop_zero, List.map_take]
theorem wideOf_eq {s : Int} {l : List Int} (hl : l.length ≤ 1000000000000) (hd : Dig l) (hs : s = 1 ∨ s = -1 ∨ vl l = 0) : m_110 [iD s, lD l] = some (wD (s * vl l)) := by
  rw [m_110_eq]
  unfold w_wideOf_M
  rw [show [D.list l.length (l.map iD)] = [lD l] from rfl, trimmed_eq l hl, take_keep hd, pullD_some ((dg (vl l).toNat).length, (dg (vl l).toNat).map iD) (by rfl) (by rfl)]
  dsimp only
  have hv := vl_nonneg hd
  rcases Int.lt_or_eq_of_le hv with h | h
  · have hne := dg_ne (n := (vl l).toNat) (by omega)
    have hlen : (dg (vl l).toNat).length ≠ 0 := fun h0 => hne (List.length_eq_zero_iff.1 h0)
    rw [if_neg (by omega)]
    have hs : s = 1 ∨ s = -1 := by omega
    have e1 : (s * vl l).natAbs = (vl l).toNat := by rcases hs with rfl | rfl <;> omega
    have e2 : (s * vl l).sign = s := by
      rcases hs with rfl | rfl
      · rw [Int.one_mul]; exact Int.sign_eq_one_of_pos h
      · rw [Int.neg_mul, Int.one_mul, Int.sign_neg, Int.sign_eq_one_of_pos h]
    simp only [wD, eD, e1, e2]
  · rw [← h]
    simp only [Int.toNat_zero, dg_zero, List.length_nil, Int.mul_zero, wD, eD, Int.natAbs_zero, Int.sign_zero, List.map_nil, Int.natCast_zero, ↓reduceIte]
    rfl
theorem digit_eq (l : List Int) (i : Nat) : m_126 [lD l, iD (i : Int)] = some (iD (l[i]?.getD 0)) := by
  rw [m_126_eq]
  unfold w_digit_M
  by_cases h : i < l.length
  · rw [if_pos (by omega), guardP_pos (by omega), readW (List.getElem?_eq_getElem h), pullD_some l[i] (by rfl) (by rfl), List.getElem?_eq_getElem h]; rfl
  · rw [if_neg (by omega), List.getElem?_eq_none (by omega)]; rfl
theorem neg_eq (z : Int) : m_112 [wD z] = some (wD (-z)) := by
  unfold wD eD
  rw [m_112_eq]
  unfold w_neg_M
  have h : IntKind.i64.wrap (0 - z.sign) = (-z).sign := by
    rw [Int.sign_neg, Int.zero_sub]
    have h1 : -1 ≤ z.sign ∧ z.sign ≤ 1 := by
      rcases Int.lt_trichotomy z 0 with h | h | h
      · rw [Int.sign_eq_neg_one_of_neg h]; omega
      · rw [h]; decide
      · rw [Int.sign_eq_one_of_pos h]; omega
    exact wrapI _ (by omega) (by omega)
  simp only [h, Int.natAbs_neg]
theorem sign_eq (z : Int) : m_111 [wD z] = some (iD z.sign) := by
  unfold wD eD
  rw [m_111_eq]
  unfold w_sign_M
  rfl
end Go.Proofs.Ytjjbacbjdilhmaa
/- Numbers of any size: of numbers, compared, added, subtracted. -/
namespace Go.Proofs.Ytjjbacbjdilhmaa
open Go.Ev Go.RowKit
set_option maxRecDepth 100000
theorem of_step (n : Int) (m : Nat) (hm : 0 < m) (hm2 : m < 9223372036854775808) (l : List Int) (hl : l.length ≤ 1000000000) (S : Rd → Option Rd) (h0 : ∀ ds, S (.next 0 ds) = w_of_L5_S0 n ds) (h1 : ∀ ds, S (.next 1 ds) = w_of_L5_S1 n ds) :
    S (.next (gq l) [iD (m : Int), gd l]) = some (.next 0 [iD ((m / 1000000000 : Nat) : Int), lD (l ++ [((m % 1000000000 : Nat) : Int)])]) := by
  have e1 : (m : Int).tmod 1000000000 = ((m % 1000000000 : Nat) : Int) := by rw [tmodB (by omega)]; omega
  have e2 : IntKind.i64.wrap ((m : Int).tdiv 1000000000) = ((m / 1000000000 : Nat) : Int) := by rw [tdivB (by omega), wrapI _ (by omega) (by omega)]; omega
  by_cases hn : l = []
  · subst hn
    show S (.next 1 _) = _
    rw [h1]
    unfold w_of_L5_S1
    rw [show gd [] = .one (.tuple #[]) from rfl, pullD_some (m : Int) (by rfl) (by rfl), if_pos (by omega), e1, e2]
    rfl
  · have hq : gq l = 0 := if_neg hn
    have hd : gd l = lD l := if_neg hn
    rw [hq, hd, h0]
    unfold w_of_L5_S0
    rw [pullD_some ((m : Int), l.length, l.map iD) (by rfl) (by rfl)]
    dsimp only
    rw [if_pos (by omega), guardP_pos ⟨cellD_int _, by simp, by omega, by omega⟩, e1, e2, grow_list]
theorem of_stop (n : Int) (l : List Int) (S : Rd → Option Rd) (h0 : ∀ ds, S (.next 0 ds) = w_of_L5_S0 n ds) (h1 : ∀ ds, S (.next 1 ds) = w_of_L5_S1 n ds) :
    S (.next (gq l) [iD 0, gd l]) = some (gout l) := by
  by_cases hn : l = []
  · subst hn
    show S (.next 1 _) = _
    rw [h1]
    unfold w_of_L5_S1
    rw [show gd [] = .one (.tuple #[]) from rfl, pullD_some (0 : Int) (by rfl) (by rfl), if_neg (by omega)]
    rfl
  · have hq : gq l = 0 := if_neg hn
    have hd : gd l = lD l := if_neg hn
    unfold gout
    rw [hq, hd, h0]
    unfold w_of_L5_S0
    rw [pullD_some ((0 : Int), l.length, l.map iD) (by rfl) (by rfl)]
    dsimp only
    rw [if_neg (by omega)]
theorem of_go (n : Int) (S : Rd → Option Rd) (h0 : ∀ ds, S (.next 0 ds) = w_of_L5_S0 n ds) (h1 : ∀ ds, S (.next 1 ds) = w_of_L5_S1 n ds) : ∀ (m : Nat), m < 9223372036854775808 → ∀ l : List Int, l.length + (dg m).length ≤ 1000000000 →
    runR S (.next (gq l) [iD (m : Int), gd l]) = some (gout (l ++ dg m)) := by
  intro m
  induction m using Nat.strongRecOn with
  | ind m ih =>
    intro hm l hl
    rcases Nat.eq_zero_or_pos m with h | h
    · subst h
      rw [dg_zero, List.append_nil]
      exact runR_exit (of_stop n l S h0 h1)
    · rw [dg_pos h, List.length_cons] at hl
      rw [runR_next (of_step n m h hm l (by omega) S h0 h1)]
      have := ih (m / 1000000000) (by omega) (by omega) (l ++ [((m % 1000000000 : Nat) : Int)]) (by rw [List.length_append, List.length_singleton]; omega)
      rw [gq_app, gd_app] at this
      rw [this, dg_pos h, List.append_assoc]
      rfl
theorem of_eq (n : Int) (h1 : -9223372036854775808 < n) (h2 : n < 9223372036854775808) : m_92 [iD n] = some (wD n) := by
  rw [m_92_eq]
  unfold w_of_M
  have hlen : (dg n.natAbs).length ≤ 3 := dg_len_le (by omega)
  have key : ∀ (s : Int) (hs : s = 1 ∨ s = -1), n = s * (n.natAbs : Int) → m_110 [iD s, lD (dg n.natAbs)] = some (wD n) := fun s hs hn => by
    rw [wideOf_eq (by omega) (dg_dig _) (by rcases hs with h | h <;> simp [h]), vl_dg, ← hn]
  by_cases hn : n < 0
  · rw [if_pos hn]
    have e : IntKind.i64.wrap (0 - n) = (n.natAbs : Int) := by rw [wrapI _ (by omega) (by omega)]; omega
    have hg := of_go n (w_of_L5_S n) (fun _ => rfl) (fun _ => rfl) n.natAbs (by omega) [] (by simp only [List.length_nil]; omega)
    rw [List.nil_append] at hg
    rw [e, show Rd.next 1 [.one (.int .i64 (n.natAbs : Int)), .one (.tuple #[])] = Rd.next (gq []) [iD (n.natAbs : Int), gd []] from rfl, bindL_some hg]
    have hne : dg n.natAbs ≠ [] := dg_ne (by omega)
    rw [show gq (dg n.natAbs) = 0 from if_neg hne, show gd (dg n.natAbs) = lD (dg n.natAbs) from if_neg hne, if_pos rfl, pullD_some ((dg n.natAbs).length, (dg n.natAbs).map iD) (by rfl) (by rfl)]
    dsimp only
    rw [guardP_pos (by simp)]
    have k := key (-1) (.inr rfl) (by omega)
    unfold wD eD at k
    rw [k, pullD_some (n.sign, (dg n.natAbs).length, (dg n.natAbs).map iD) (by rfl) (by rfl)]
    rfl
  · rw [if_neg hn]
    have e : n = (n.natAbs : Int) := by omega
    have hg := of_go n (w_of_L5_1_S n) (fun _ => rfl) (fun _ => rfl) n.natAbs (by omega) [] (by simp only [List.length_nil]; omega)
    rw [List.nil_append, ← e] at hg
    rw [show Rd.next 1 [.one (.int .i64 n), .one (.tuple #[])] = Rd.next (gq []) [iD n, gd []] from rfl, bindL_some hg]
    have k := key 1 (.inl rfl) (by omega)
    unfold wD eD at k
    by_cases hne : dg n.natAbs = []
    · rw [hne, show gq [] = 1 from rfl, show gd [] = .one (.tuple #[]) from rfl, if_neg (by decide), if_pos rfl, pullD_some () (by rfl) (by rfl)]
      rw [hne] at k
      have k : m_110 [.one (.int .i64 1), .list 0 []] = some (.agg [iD n.sign, .list 0 []]) := k
      rw [k, pullD_some (n.sign, 0, []) (by rfl) (by rfl)]
      unfold wD eD
      rw [hne]
      rfl
    · rw [show gq (dg n.natAbs) = 0 from if_neg hne, show gd (dg n.natAbs) = lD (dg n.natAbs) from if_neg hne, if_pos rfl, pullD_some ((dg n.natAbs).length, (dg n.natAbs).map iD) (by rfl) (by rfl)]
      dsimp only
      rw [guardP_pos (by simp), k, pullD_some (n.sign, (dg n.natAbs).length, (dg n.natAbs).map iD) (by rfl) (by rfl)]
      rfl
theorem cmp_go (a b : List Int) (ha : Dig a) (hb : Dig b) (hl : a.length = b.length) (hs : a.length ≤ 1000000000000) : ∀ t : Nat, t ≤ a.length →
    runR (w_cmpDigits_L6_S a.length (a.map iD) b.length (b.map iD)) (.next 0 [iD ((t : Int) - 1)]) = some (if vl (a.take t) < vl (b.take t) then .out 1 [iD (-1)] else if vl (b.take t) < vl (a.take t) then .out 1 [iD 1] else .out 0 []) := by
  intro t
  induction t with
  | zero =>
    intro _
    simp only [List.take_zero, Int.lt_irrefl, if_false]
    refine runR_exit ?_
    show w_cmpDigits_L6_S0 _ _ _ _ _ = _
    unfold w_cmpDigits_L6_S0
    rw [pullD_some (((0 : Nat) : Int) - 1) (by rfl) (by rfl), if_neg (by omega)]
  | succ t ih =>
    intro ht
    have h1 : t < a.length := by omega
    have h2 : t < b.length := by omega
    have e : (((t + 1 : Nat) : Int) - 1) = (t : Int) := by omega
    have ea : a[t]?.getD 0 = a[t] := by rw [List.getElem?_eq_getElem h1]; rfl
    have eb : b[t]?.getD 0 = b[t] := by rw [List.getElem?_eq_getElem h2]; rfl
    rw [vl_take_succ, vl_take_succ, ea, eb, e]
    have pa := vl_lt (ha.take t)
    have pb := vl_lt (hb.take t)
    have na := vl_nonneg (ha.take t)
    have nb := vl_nonneg (hb.take t)
    rw [List.length_take, Nat.min_eq_left (by omega)] at pa pb
    have st : w_cmpDigits_L6_S a.length (a.map iD) b.length (b.map iD) (.next 0 [iD (t : Int)]) = some (if a[t] < b[t] then .out 1 [iD (-1)] else if a[t] > b[t] then .out 1 [iD 1] else .next 0 [iD ((t : Int) - 1)]) := by
      show w_cmpDigits_L6_S0 _ _ _ _ _ = _
      unfold w_cmpDigits_L6_S0
      rw [pullD_some (t : Int) (by rfl) (by rfl), if_pos (by omega), guardP_pos (by omega), readW (List.getElem?_eq_getElem h1), pullD_some a[t] (by rfl) (by rfl), guardP_pos (by omega), readW (List.getElem?_eq_getElem h2), pullD_some b[t] (by rfl) (by rfl)]
      by_cases h3 : a[t] < b[t]
      · rw [if_pos h3, if_pos h3]
      · rw [if_neg h3, if_neg h3, pullD_some a[t] (by rfl) (by rfl), pullD_some b[t] (by rfl) (by rfl), wrapI _ (by omega) (by omega)]
        split <;> rfl
    rcases Int.lt_trichotomy a[t] b[t] with h3 | h3 | h3
    · rw [if_pos h3] at st
      rw [runR_exit st, if_pos (lt_of_top pa nb h3 (powP t))]
    · rw [if_neg (by omega), if_neg (by omega)] at st
      rw [runR_next st, ih (by omega), h3]
      simp only [Int.add_lt_add_iff_right]
    · rw [if_neg (by omega), if_pos h3] at st
      have := lt_of_top pb na h3 (powP t)
      rw [runR_exit st, if_neg (by omega), if_pos this]
def sgn3 (a b : Nat) : Int := if a < b then -1 else if b < a then 1 else 0
theorem cmpDigits_eq (a b : Nat) (ha : (dg a).length ≤ 1000000000000) (hb : (dg b).length ≤ 1000000000000) : m_123 [lD (dg a), lD (dg b)] = some (iD (sgn3 a b)) := by
  rw [m_123_eq]
  unfold w_cmpDigits_M
  have big : ∀ a b : Nat, (dg a).length < (dg b).length → a < b := fun a b h => by
    have h1 := lt_of_dg_len a
    have hb0 : 0 < b := by
      rcases Nat.eq_zero_or_pos b with h0 | h0
      · subst h0; rw [dg_zero] at h; simp at h
      · exact h0
    have h2 := dg_low hb0
    have h3 : 1000000000 ^ (dg a).length ≤ 1000000000 ^ ((dg b).length - 1) := Nat.pow_le_pow_right (by decide) (by omega)
    omega
  unfold sgn3
  by_cases hl : (dg a).length = (dg b).length
  · rw [if_neg (by omega)]
    have h := cmp_go (dg a) (dg b) (dg_dig a) (dg_dig b) hl ha (dg a).length (Nat.le_refl _)
    rw [List.take_length, hl, List.take_length, vl_dg, vl_dg] at h
    rw [wrapI _ (by omega) (by omega), hl]
    by_cases h1 : a < b
    · rw [if_pos (by omega)] at h
      rw [bindL_some h, if_pos h1, if_neg (by decide), if_pos rfl, pullD_some (-1 : Int) (by rfl) (by rfl)]
    · by_cases h2 : b < a
      · rw [if_neg (by omega), if_pos (by omega)] at h
        rw [bindL_some h, if_neg h1, if_pos h2, if_neg (by decide), if_pos rfl, pullD_some (1 : Int) (by rfl) (by rfl)]
      · rw [if_neg (by omega), if_neg (by omega)] at h
        rw [bindL_some h, if_neg h1, if_neg h2, if_pos rfl, pullD_some () (by rfl) (by rfl)]
  · rw [if_pos (by omega)]
    rcases Nat.lt_or_ge (dg a).length (dg b).length with h | h
    · rw [if_pos (by omega), if_pos (big a b h)]
    · have := big b a (by omega)
      rw [if_neg (by omega), if_neg (by omega), if_pos this]
end Go.Proofs.Ytjjbacbjdilhmaa
/- Numbers of any size: added, subtracted, compared. -/
namespace Go.Proofs.Ytjjbacbjdilhmaa
open Go.Ev Go.RowKit
set_option maxRecDepth 100000
theorem digit_eq' (l : List Int) (i : Nat) : m_126 [.list l.length (l.map iD), .one (.int .i64 (i : Int))] = some (iD (l[i]?.getD 0)) := digit_eq l i
theorem add_step (a b l : List Int) (ha : Dig a) (hb : Dig b) (c : Int) (i : Nat) (h0 : 0 ≤ c) (h1 : c ≤ 1) (hi : i < a.length ∨ i < b.length ∨ 0 < c) (hl : l.length ≤ 1000000000) (his : i ≤ 1000000000) :
    w_addDigits_L4_S a.length (a.map iD) b.length (b.map iD) (.next (gq l) [gd l, iD c, iD (i : Int)]) = some (.next 0 [lD (l ++ [(a[i]?.getD 0 + b[i]?.getD 0 + c) % 1000000000]), iD ((a[i]?.getD 0 + b[i]?.getD 0 + c) / 1000000000), iD ((i + 1 : Nat) : Int)]) := by
  have pa := ha.at i
  have pb := hb.at i
  have e1 : IntKind.i64.wrap (a[i]?.getD 0 + b[i]?.getD 0) = a[i]?.getD 0 + b[i]?.getD 0 := wrapI _ (by omega) (by omega)
  have e2 : IntKind.i64.wrap (a[i]?.getD 0 + b[i]?.getD 0 + c) = a[i]?.getD 0 + b[i]?.getD 0 + c := wrapI _ (by omega) (by omega)
  generalize hs : a[i]?.getD 0 + b[i]?.getD 0 + c = s at *
  have e3 : s.tmod 1000000000 = s % 1000000000 := tmodB (by omega)
  have e4 : IntKind.i64.wrap (s.tdiv 1000000000) = s / 1000000000 := by rw [tdivB (by omega), wrapI _ (by omega) (by omega)]
  have e5 : IntKind.i64.wrap ((i : Int) + 1) = ((i + 1 : Nat) : Int) := by rw [wrapI _ (by omega) (by omega)]; omega
  by_cases hn : l = []
  · subst hn
    show w_addDigits_L4_S1 _ _ _ _ _ = _
    unfold w_addDigits_L4_S1
    rw [show gd [] = .one (.tuple #[]) from rfl, pullD_some (c, (i : Int)) (by rfl) (by rfl)]
    dsimp only
    rw [digit_eq', digit_eq']
    simp only [pullI]
    rw [e1, hs, e2, e3, e4, e5]
    by_cases h2 : i < a.length
    · rw [if_pos (by omega)]; rfl
    · rw [if_neg (by omega)]
      by_cases h3 : i < b.length
      · rw [if_pos (by omega)]; rfl
      · rw [if_neg (by omega), if_pos (by omega)]; rfl
  · rw [show gq l = 0 from if_neg hn, show gd l = lD l from if_neg hn]
    show w_addDigits_L4_S0 _ _ _ _ _ = _
    unfold w_addDigits_L4_S0
    rw [pullD_some (l.length, l.map iD, c, (i : Int)) (by rfl) (by rfl)]
    dsimp only
    rw [digit_eq', digit_eq']
    simp only [pullI]
    rw [e1, hs, e2, e3, e4, e5, guardP_pos ⟨cellD_int _, by simp, by omega, by omega⟩, grow_list]
    by_cases h2 : i < a.length
    · rw [if_pos (by omega)]
    · rw [if_neg (by omega)]
      by_cases h3 : i < b.length
      · rw [if_pos (by omega)]
      · rw [if_neg (by omega), if_pos (by omega)]
theorem add_stop (a b l : List Int) (i : Nat) (h1 : a.length ≤ i) (h2 : b.length ≤ i) :
    w_addDigits_L4_S a.length (a.map iD) b.length (b.map iD) (.next (gq l) [gd l, iD 0, iD (i : Int)]) = some (gout l) := by
  by_cases hn : l = []
  · subst hn
    show w_addDigits_L4_S1 _ _ _ _ _ = _
    unfold w_addDigits_L4_S1
    rw [show gd [] = .one (.tuple #[]) from rfl, pullD_some ((0 : Int), (i : Int)) (by rfl) (by rfl)]
    dsimp only
    rw [if_neg (by omega), if_neg (by omega), if_neg (by omega)]
    rfl
  · rw [show gq l = 0 from if_neg hn, show gd l = lD l from if_neg hn]
    show w_addDigits_L4_S0 _ _ _ _ _ = _
    unfold w_addDigits_L4_S0 gout
    rw [pullD_some (l.length, l.map iD, (0 : Int), (i : Int)) (by rfl) (by rfl), show gq l = 0 from if_neg hn, show gd l = lD l from if_neg hn]
    dsimp only
    rw [if_neg (by omega), if_neg (by omega), if_neg (by omega)]
theorem add_go (a b : List Int) (ha : Dig a) (hb : Dig b) (m : Nat) (hma : a.length ≤ m) (hmb : b.length ≤ m) (hm : m ≤ 100000000) : ∀ (k : Nat) (l : List Int) (c : Int), m + 1 - l.length ≤ k → Dig l → 0 ≤ c → c ≤ 1 → l.length ≤ m + 1 →
    vl l + (1000000000 : Int) ^ l.length * c = vl (a.take l.length) + vl (b.take l.length) →
    ∃ l', runR (w_addDigits_L4_S a.length (a.map iD) b.length (b.map iD)) (.next (gq l) [gd l, iD c, iD (l.length : Int)]) = some (gout l') ∧ Dig l' ∧ vl l' = vl a + vl b ∧ l'.length ≤ m + 1 := by
  have va := vl_lt ha
  have vb := vl_lt hb
  have pm := pow_le hma
  have pm2 := pow_le hmb
  intro k
  induction k with
  | zero =>
    intro l c hk hl h0 h1 hlm hv
    have hlen : l.length = m + 1 := by omega
    have hc : c = 0 := by
      rw [List.take_of_length_le (by omega), List.take_of_length_le (by omega), hlen, Int.pow_succ] at hv
      have := vl_nonneg hl
      have := powP m
      rcases (show c = 0 ∨ c = 1 by omega) with h | h
      · exact h
      · rw [h] at hv; omega
    subst hc
    refine ⟨l, runR_exit (add_stop a b l l.length (by omega) (by omega)), hl, ?_, by omega⟩
    rw [List.take_of_length_le (by omega), List.take_of_length_le (by omega)] at hv
    omega
  | succ k ih =>
    intro l c hk hl h0 h1 hlm hv
    by_cases hi : l.length < a.length ∨ l.length < b.length ∨ 0 < c
    · have hlm2 : l.length ≤ m := by
        rcases hi with h | h | h
        · omega
        · omega
        · rcases Nat.lt_or_ge m l.length with h2 | h2
          · have hlen : l.length = m + 1 := by omega
            rw [List.take_of_length_le (by omega), List.take_of_length_le (by omega), hlen, Int.pow_succ] at hv
            have := vl_nonneg hl
            have := powP m
            rw [show c = 1 by omega] at hv
            omega
          · omega
      have pa := ha.at l.length
      have pb := hb.at l.length
      have st := add_step a b l ha hb c l.length h0 h1 hi (by omega) (by omega)
      generalize hs : a[l.length]?.getD 0 + b[l.length]?.getD 0 + c = s at *
      obtain ⟨l', q1, q2, q3, q4⟩ := ih (l ++ [s % 1000000000]) (s / 1000000000) (by rw [List.length_append, List.length_singleton]; omega) (hl.append (Dig.one (by omega) (by omega))) (by omega) (by omega) (by rw [List.length_append, List.length_singleton]; omega) (by
        rw [List.length_append, List.length_singleton, vl_take_succ, vl_take_succ, vl_append, Int.pow_succ]
        have e : s = s % 1000000000 + 1000000000 * (s / 1000000000) := by omega
        have e2 : (1000000000 : Int) ^ l.length * s = (1000000000 : Int) ^ l.length * (s % 1000000000) + (1000000000 : Int) ^ l.length * 1000000000 * (s / 1000000000) := by
          rw [Int.mul_assoc, ← Int.mul_add, ← e]
        have e3 : (1000000000 : Int) ^ l.length * s = (1000000000 : Int) ^ l.length * a[l.length]?.getD 0 + (1000000000 : Int) ^ l.length * b[l.length]?.getD 0 + (1000000000 : Int) ^ l.length * c := by
          rw [← hs, Int.mul_add, Int.mul_add]
        simp only [vl, Int.mul_zero, Int.add_zero]
        omega)
      rw [gq_app, gd_app, List.length_append, List.length_singleton] at q1
      exact ⟨l', (runR_next st).trans q1, q2, q3, q4⟩
    · have hc : c = 0 := by omega
      subst hc
      refine ⟨l, runR_exit (add_stop a b l l.length (by omega) (by omega)), hl, ?_, by omega⟩
      rw [List.take_of_length_le (by omega), List.take_of_length_le (by omega)] at hv
      omega
theorem addDigits_eq (a b : List Int) (ha : Dig a) (hb : Dig b) (m : Nat) (hma : a.length ≤ m) (hmb : b.length ≤ m) (hm : m ≤ 100000000) : ∃ l, m_127 [lD a, lD b] = some (lD l) ∧ Dig l ∧ vl l = vl a + vl b ∧ l.length ≤ m + 1 := by
  obtain ⟨l, h1, h2, h3, h4⟩ := add_go a b ha hb m hma hmb hm (m + 1) [] 0 (by simp) Dig.nil (by decide) (by decide) (by simp) (by simp [vl])
  refine ⟨l, ?_, h2, h3, h4⟩
  rw [m_127_eq]
  unfold w_addDigits_M
  have h1 : runR (w_addDigits_L4_S a.length (a.map iD) b.length (b.map iD)) (.next 1 [.one (.tuple #[]), .one (.int .i64 0), .one (.int .i64 0)]) = some (gout l) := h1
  unfold gout at h1
  rw [bindL_some h1]
  by_cases hn : l = []
  · subst hn
    rw [show gq [] = 1 from rfl, show gd [] = .one (.tuple #[]) from rfl, if_neg (by decide), if_pos rfl, pullD_some () (by rfl) (by rfl)]
    rfl
  · rw [show gq l = 0 from if_neg hn, show gd l = lD l from if_neg hn, if_pos rfl, pullD_some (l.length, l.map iD) (by rfl) (by rfl)]
    dsimp only
    rw [guardP_pos (by simp)]
end Go.Proofs.Ytjjbacbjdilhmaa
/- Numbers of any size: subtracted; sums, differences, which is greater. -/
namespace Go.Proofs.Ytjjbacbjdilhmaa
open Go.Ev Go.RowKit
set_option maxRecDepth 100000
theorem sub_step (a b l : List Int) (ha : Dig a) (hb : Dig b) (c : Int) (i : Nat) (h0 : 0 ≤ c) (h1 : c ≤ 1) (hi : i < a.length) (hl : l.length ≤ 1000000000) (his : a.length ≤ 1000000000) (x c' : Int) (hx : x - 1000000000 * c' = a[i]?.getD 0 - b[i]?.getD 0 - c) (hx0 : 0 ≤ x) (hx1 : x < 1000000000) (hc0 : 0 ≤ c') (hc1 : c' ≤ 1) :
    w_subDigits_L4_S a.length (a.map iD) b.length (b.map iD) (.next (gq l) [gd l, iD c, iD (i : Int)]) = some (.next 0 [lD (l ++ [x]), iD c', iD ((i + 1 : Nat) : Int)]) := by
  have pa := ha.at i
  have pb := hb.at i
  have ea : a[i]?.getD 0 = a[i] := by rw [List.getElem?_eq_getElem hi]; rfl
  rw [ea] at pa hx
  have e1 : IntKind.i64.wrap (a[i] - b[i]?.getD 0) = a[i] - b[i]?.getD 0 := wrapI _ (by omega) (by omega)
  have e2 : IntKind.i64.wrap (a[i] - b[i]?.getD 0 - c) = a[i] - b[i]?.getD 0 - c := wrapI _ (by omega) (by omega)
  generalize hs : a[i] - b[i]?.getD 0 - c = s at *
  have e3 : IntKind.i64.wrap (s + 1000000000) = s + 1000000000 := wrapI _ (by omega) (by omega)
  have e5 : IntKind.i64.wrap ((i : Int) + 1) = ((i + 1 : Nat) : Int) := by rw [wrapI _ (by omega) (by omega)]; omega
  by_cases hn : l = []
  · subst hn
    show w_subDigits_L4_S1 _ _ _ _ _ = _
    unfold w_subDigits_L4_S1
    rw [show gd [] = .one (.tuple #[]) from rfl, pullD_some (c, (i : Int)) (by rfl) (by rfl)]
    dsimp only
    rw [if_pos (by omega), guardP_pos (by omega), readW (List.getElem?_eq_getElem hi), digit_eq']
    simp only [pullI]
    rw [e1, hs, e2, e3, e5]
    by_cases h2 : s < 0
    · rw [if_pos h2, show x = s + 1000000000 by omega, show c' = 1 by omega]; rfl
    · rw [if_neg h2, show x = s by omega, show c' = 0 by omega]; rfl
  · rw [show gq l = 0 from if_neg hn, show gd l = lD l from if_neg hn]
    show w_subDigits_L4_S0 _ _ _ _ _ = _
    unfold w_subDigits_L4_S0
    rw [pullD_some (l.length, l.map iD, c, (i : Int)) (by rfl) (by rfl)]
    dsimp only
    rw [if_pos (by omega), guardP_pos (by omega), readW (List.getElem?_eq_getElem hi), digit_eq']
    simp only [pullI]
    rw [e1, hs, e2, e3, e5]
    by_cases h2 : s < 0
    · rw [if_pos h2, guardP_pos ⟨cellD_int _, by simp, by omega, by omega⟩, grow_list, show x = s + 1000000000 by omega, show c' = 1 by omega]
    · rw [if_neg h2, guardP_pos ⟨cellD_int _, by simp, by omega, by omega⟩, grow_list, show x = s by omega, show c' = 0 by omega]
theorem sub_stop (a b l : List Int) (c : Int) (i : Nat) (h1 : a.length ≤ i) :
    w_subDigits_L4_S a.length (a.map iD) b.length (b.map iD) (.next (gq l) [gd l, iD c, iD (i : Int)]) = some (gout l) := by
  by_cases hn : l = []
  · subst hn
    show w_subDigits_L4_S1 _ _ _ _ _ = _
    unfold w_subDigits_L4_S1
    rw [show gd [] = .one (.tuple #[]) from rfl, pullD_some (c, (i : Int)) (by rfl) (by rfl)]
    dsimp only
    rw [if_neg (by omega)]
    rfl
  · rw [show gq l = 0 from if_neg hn, show gd l = lD l from if_neg hn]
    show w_subDigits_L4_S0 _ _ _ _ _ = _
    unfold w_subDigits_L4_S0 gout
    rw [pullD_some (l.length, l.map iD, c, (i : Int)) (by rfl) (by rfl), show gq l = 0 from if_neg hn, show gd l = lD l from if_neg hn]
    dsimp only
    rw [if_neg (by omega)]
theorem sub_go (a b : List Int) (ha : Dig a) (hb : Dig b) (hm : a.length ≤ 100000000) : ∀ (k : Nat) (l : List Int) (c : Int), a.length - l.length ≤ k → Dig l → 0 ≤ c → c ≤ 1 → l.length ≤ a.length →
    vl l - (1000000000 : Int) ^ l.length * c = vl (a.take l.length) - vl (b.take l.length) →
    ∃ l' c', runR (w_subDigits_L4_S a.length (a.map iD) b.length (b.map iD)) (.next (gq l) [gd l, iD c, iD (l.length : Int)]) = some (gout l') ∧ Dig l' ∧ 0 ≤ c' ∧ c' ≤ 1 ∧ l'.length = a.length ∧ vl l' - (1000000000 : Int) ^ a.length * c' = vl a - vl (b.take a.length) := by
  intro k
  induction k with
  | zero =>
    intro l c hk hl h0 h1 hlm hv
    have hlen : l.length = a.length := by omega
    refine ⟨l, c, runR_exit (sub_stop a b l c l.length (by omega)), hl, h0, h1, hlen, ?_⟩
    rw [hlen, List.take_length] at hv
    exact hv
  | succ k ih =>
    intro l c hk hl h0 h1 hlm hv
    by_cases hi : l.length < a.length
    · have pa := ha.at l.length
      have pb := hb.at l.length
      obtain ⟨x, c', hx, hx0, hx1, hc0, hc1⟩ : ∃ x c' : Int, x - 1000000000 * c' = a[l.length]?.getD 0 - b[l.length]?.getD 0 - c ∧ 0 ≤ x ∧ x < 1000000000 ∧ 0 ≤ c' ∧ c' ≤ 1 := by
        by_cases h2 : a[l.length]?.getD 0 - b[l.length]?.getD 0 - c < 0
        · exact ⟨a[l.length]?.getD 0 - b[l.length]?.getD 0 - c + 1000000000, 1, by omega, by omega, by omega, by omega, by omega⟩
        · exact ⟨a[l.length]?.getD 0 - b[l.length]?.getD 0 - c, 0, by omega, by omega, by omega, by omega, by omega⟩
      have st := sub_step a b l ha hb c l.length h0 h1 hi (by omega) (by omega) x c' hx hx0 hx1 hc0 hc1
      obtain ⟨l', c2, q1, q2, q3, q4, q5, q6⟩ := ih (l ++ [x]) c' (by rw [List.length_append, List.length_singleton]; omega) (hl.append (Dig.one hx0 hx1)) hc0 hc1 (by rw [List.length_append, List.length_singleton]; omega) (by
        rw [List.length_append, List.length_singleton, vl_take_succ, vl_take_succ, vl_append, Int.pow_succ]
        have e2 : (1000000000 : Int) ^ l.length * x - (1000000000 : Int) ^ l.length * 1000000000 * c' = (1000000000 : Int) ^ l.length * a[l.length]?.getD 0 - (1000000000 : Int) ^ l.length * b[l.length]?.getD 0 - (1000000000 : Int) ^ l.length * c := by
          rw [Int.mul_assoc, ← Int.mul_sub, hx, Int.mul_sub, Int.mul_sub]
        simp only [vl, Int.mul_zero, Int.add_zero]
        omega)
      rw [gq_app, gd_app, List.length_append, List.length_singleton] at q1
      exact ⟨l', c2, (runR_next st).trans q1, q2, q3, q4, q5, q6⟩
    · have hlen : l.length = a.length := by omega
      refine ⟨l, c, runR_exit (sub_stop a b l c l.length (by omega)), hl, h0, h1, hlen, ?_⟩
      rw [hlen, List.take_length] at hv
      exact hv
theorem dg_len_mono {a b : Nat} (h : a ≤ b) : (dg a).length ≤ (dg b).length := dg_len_le (Nat.lt_of_le_of_lt h (lt_of_dg_len b))
theorem subDigits_eq (a b : Nat) (h : b ≤ a) (hm : (dg a).length ≤ 100000000) : m_124 [lD (dg a), lD (dg b)] = some (lD (dg (a - b))) := by
  have hlen := dg_len_mono h
  obtain ⟨l, c, h1, h2, h3, h4, h5, h6⟩ := sub_go (dg a) (dg b) (dg_dig a) (dg_dig b) hm (dg a).length [] 0 (by simp) Dig.nil (by decide) (by decide) (by simp) (by simp [vl])
  rw [List.take_of_length_le hlen, vl_dg, vl_dg] at h6
  have hv := vl_lt h2
  have hv0 := vl_nonneg h2
  rw [h5] at hv
  have hc : c = 0 := by
    rcases (show c = 0 ∨ c = 1 by omega) with h | h
    · exact h
    · rw [h] at h6; omega
  subst hc
  have e : (vl l).toNat = a - b := by omega
  have ht : m_120 [lD l] = some (lD (dg (a - b))) := by
    rw [trimmed_eq l (by omega), take_keep h2, e]
  rw [m_124_eq]
  unfold w_subDigits_M
  have h1 : runR (w_subDigits_L4_S (dg a).length ((dg a).map iD) (dg b).length ((dg b).map iD)) (.next 1 [.one (.tuple #[]), .one (.int .i64 0), .one (.int .i64 0)]) = some (gout l) := h1
  unfold gout at h1
  rw [bindL_some h1]
  by_cases hn : l = []
  · subst hn
    rw [show gq [] = 1 from rfl, show gd [] = .one (.tuple #[]) from rfl, if_neg (by decide), if_pos rfl, pullD_some () (by rfl) (by rfl)]
    have ht : m_120 [.list 0 []] = some (lD (dg (a - b))) := ht
    rw [ht, pullD_some ((dg (a - b)).length, (dg (a - b)).map iD) (by rfl) (by rfl)]
  · rw [show gq l = 0 from if_neg hn, show gd l = lD l from if_neg hn, if_pos rfl, pullD_some (l.length, l.map iD) (by rfl) (by rfl)]
    dsimp only
    rw [guardP_pos (by simp), show [D.list l.length (l.map iD)] = [lD l] from rfl, ht, pullD_some ((dg (a - b)).length, (dg (a - b)).map iD) (by rfl) (by rfl)]
theorem sign_cases (z : Int) : (z < 0 ∧ z.sign = -1 ∧ z = -(z.natAbs : Int)) ∨ (z = 0 ∧ z.sign = 0 ∧ z.natAbs = 0) ∨ (0 < z ∧ z.sign = 1 ∧ z = (z.natAbs : Int)) := by
  rcases Int.lt_trichotomy z 0 with h | h | h
  · exact .inl ⟨h, Int.sign_eq_neg_one_of_neg h, by omega⟩
  · exact .inr (.inl ⟨h, by rw [h]; rfl, by omega⟩)
  · exact .inr (.inr ⟨h, Int.sign_eq_one_of_pos h, by omega⟩)
abbrev small (z : Int) : Prop := nd z ≤ 10000000
theorem add_eq (a b : Int) (ha : nd a ≤ 90000000) (hb : nd b ≤ 90000000) : m_125 [wD a, wD b] = some (wD (a + b)) := by
  unfold nd at ha hb
  show m_125 [.agg [iD a.sign, .list (dg a.natAbs).length ((dg a.natAbs).map iD)], .agg [iD b.sign, .list (dg b.natAbs).length ((dg b.natAbs).map iD)]] = _
  rw [m_125_eq]
  unfold w_add_M
  have sa := sign_cases a
  have sb := sign_cases b
  by_cases h1 : a.sign = 0
  · rw [if_pos h1, show a = 0 by omega, Int.zero_add]; rfl
  rw [if_neg h1]
  by_cases h2 : b.sign = 0
  · rw [if_pos h2, show b = 0 by omega, Int.add_zero]; rfl
  rw [if_neg h2]
  have fin : ∀ (s : Int) (l : List Int), s = 1 ∨ s = -1 → l.length ≤ 1000000000000 → Dig l → s * vl l = a + b → m_110 [.one (.int .i64 s), .list l.length (l.map iD)] = some (.agg [iD (a + b).sign, .list (dg (a + b).natAbs).length ((dg (a + b).natAbs).map iD)]) := fun s l hs hl hd hv => by
    have := wideOf_eq hl hd (s := s) (by rcases hs with h | h <;> simp [h])
    rw [hv] at this
    exact this
  by_cases h3 : a.sign = b.sign
  · rw [if_pos h3]
    obtain ⟨l, q1, q2, q3, q4⟩ := addDigits_eq (dg a.natAbs) (dg b.natAbs) (dg_dig _) (dg_dig _) 90000000 ha hb (by decide)
    rw [show [D.list (dg a.natAbs).length ((dg a.natAbs).map iD), .list (dg b.natAbs).length ((dg b.natAbs).map iD)] = [lD (dg a.natAbs), lD (dg b.natAbs)] from rfl, q1, pullD_some (l.length, l.map iD) (by rfl) (by rfl)]
    dsimp only
    rw [vl_dg, vl_dg] at q3
    rw [fin a.sign l (by omega) (by omega) q2 (by rw [q3]; rcases sa with h | h | h <;> rcases sb with g | g | g <;> rw [h.2.1] <;> omega), pullD_some ((a + b).sign, (dg (a + b).natAbs).length, (dg (a + b).natAbs).map iD) (by rfl) (by rfl)]
    rfl
  rw [if_neg h3]
  rw [show [D.list (dg a.natAbs).length ((dg a.natAbs).map iD), .list (dg b.natAbs).length ((dg b.natAbs).map iD)] = [lD (dg a.natAbs), lD (dg b.natAbs)] from rfl, cmpDigits_eq a.natAbs b.natAbs (by omega) (by omega), pullI]
  unfold sgn3
  by_cases h4 : a.natAbs < b.natAbs
  · rw [if_pos h4, if_neg (by decide), if_neg (by decide)]
    rw [show [D.list (dg b.natAbs).length ((dg b.natAbs).map iD), .list (dg a.natAbs).length ((dg a.natAbs).map iD)] = [lD (dg b.natAbs), lD (dg a.natAbs)] from rfl, subDigits_eq b.natAbs a.natAbs (by omega) (by omega), pullD_some ((dg (b.natAbs - a.natAbs)).length, (dg (b.natAbs - a.natAbs)).map iD) (by rfl) (by rfl)]
    dsimp only
    have hl := dg_len_mono (show b.natAbs - a.natAbs ≤ b.natAbs by omega)
    rw [fin b.sign (dg (b.natAbs - a.natAbs)) (by omega) (by omega) (dg_dig _) (by rw [vl_dg]; rcases sa with h | h | h <;> rcases sb with g | g | g <;> rw [g.2.1] <;> omega), pullD_some ((a + b).sign, (dg (a + b).natAbs).length, (dg (a + b).natAbs).map iD) (by rfl) (by rfl)]
    rfl
  by_cases h5 : b.natAbs < a.natAbs
  · rw [if_neg h4, if_pos h5, if_neg (by decide), if_pos (by decide)]
    rw [subDigits_eq a.natAbs b.natAbs (by omega) (by omega), pullD_some ((dg (a.natAbs - b.natAbs)).length, (dg (a.natAbs - b.natAbs)).map iD) (by rfl) (by rfl)]
    dsimp only
    have hl := dg_len_mono (show a.natAbs - b.natAbs ≤ a.natAbs by omega)
    rw [fin a.sign (dg (a.natAbs - b.natAbs)) (by omega) (by omega) (dg_dig _) (by rw [vl_dg]; rcases sa with h | h | h <;> rcases sb with g | g | g <;> rw [h.2.1] <;> omega), pullD_some ((a + b).sign, (dg (a + b).natAbs).length, (dg (a + b).natAbs).map iD) (by rfl) (by rfl)]
    rfl
  · rw [if_neg h4, if_neg h5, if_pos rfl, show a + b = 0 by omega]
    unfold wD eD
    rw [show (0 : Int).natAbs = 0 from rfl, dg_zero]
    rfl
theorem wD_cells (z : Int) : wD z = .agg [iD z.sign, .list (dg z.natAbs).length ((dg z.natAbs).map iD)] := rfl
theorem sub_eq (a b : Int) (ha : nd a ≤ 90000000) (hb : nd b ≤ 90000000) : m_122 [wD a, wD b] = some (wD (a - b)) := by
  rw [wD_cells a, wD_cells b, m_122_eq]
  unfold w_sub_M
  rw [← wD_cells b, neg_eq b, pullD_some ((-b).sign, (dg (-b).natAbs).length, (dg (-b).natAbs).map iD) (by rfl) (by rfl)]
  dsimp only
  have hb' : nd (-b) ≤ 90000000 := by unfold nd; rw [Int.natAbs_neg]; exact hb
  have := add_eq a (-b) ha hb'
  rw [← Int.sub_eq_add_neg] at this
  unfold wD eD at this
  rw [this, pullD_some ((a - b).sign, (dg (a - b).natAbs).length, (dg (a - b).natAbs).map iD) (by rfl) (by rfl)]
  rfl
theorem cmp_eq (a b : Int) (ha : nd a ≤ 90000000) (hb : nd b ≤ 90000000) : m_114 [wD a, wD b] = some (iD (a - b).sign) := by
  have h := sub_eq a b ha hb
  rw [wD_cells a, wD_cells b] at h ⊢
  rw [m_114_eq]
  unfold w_cmp_M
  rw [h, pullD_some ((a - b).sign, (dg (a - b).natAbs).length, (dg (a - b).natAbs).map iD) (by rfl) (by rfl)]
end Go.Proofs.Ytjjbacbjdilhmaa
/- Numbers of any size: products. -/
namespace Go.Proofs.Ytjjbacbjdilhmaa
open Go.Ev Go.RowKit
set_option maxRecDepth 100000
theorem prod_bound {x y : Int} (h0 : 0 ≤ x) (h1 : x < 1000000000) (h2 : 0 ≤ y) (h3 : y < 1000000000) : 0 ≤ x * y ∧ x * y ≤ 999999998000000001 := by
  have a := Int.mul_nonneg h0 h2
  have b := Int.mul_le_mul (show x ≤ 999999999 by omega) (show y ≤ 999999999 by omega) h2 (by decide)
  exact ⟨a, by omega⟩
theorem readP (o : List Int) (p : Nat) (h : p < o.length) : readD (o.map iD) (0 + p * 1) 1 false = some (iD (o[p]?.getD 0)) := by
  rw [Nat.zero_add, List.getElem?_eq_getElem h]
  exact readW (List.getElem?_eq_getElem h)
theorem mul_step (sa sb : Int) (a b o : List Int) (ha : Dig a) (hb : Dig b) (ho : Dig o) (x1 : List D) (i k : Nat) (c : Int) (h0 : 0 ≤ c) (h1 : c < 1000000000) (hi : i < a.length) (hk : k < b.length) (hl : o.length = a.length + b.length + 1) (hs : a.length + b.length ≤ 1000000000) (s : Int) (hsv : s = o[i + k]?.getD 0 + a[i]?.getD 0 * b[k]?.getD 0 + c) :
    w_mul_L7_S sa a.length (a.map iD) sb b.length (b.map iD) (i : Int) x1 (.next 0 [iD c, iD (k : Int), .list (a.length + b.length + 1) (o.map iD)]) = some (.next 0 [iD (s / 1000000000), iD ((k + 1 : Nat) : Int), .list (a.length + b.length + 1) ((o.set (i + k) (s % 1000000000)).map iD)]) := by
  have pa := ha.at i
  have pb := hb.at k
  have po := ho.at (i + k)
  have pp := prod_bound pa.1 pa.2 pb.1 pb.2
  have eN : (IntKind.i64.wrap (IntKind.i64.wrap ((a.length : Int) + (b.length : Int)) + 1)).toNat = a.length + b.length + 1 := by
    rw [wrapI _ (by rw [wrapI _ (by omega) (by omega)]; omega) (by rw [wrapI _ (by omega) (by omega)]; omega), wrapI _ (by omega) (by omega)]; omega
  have eP : IntKind.i64.wrap ((i : Int) + (k : Int)) = ((i + k : Nat) : Int) := by rw [wrapI _ (by omega) (by omega)]; omega
  have ea : a[i]?.getD 0 = a[i] := by rw [List.getElem?_eq_getElem hi]; rfl
  have eb : b[k]?.getD 0 = b[k] := by rw [List.getElem?_eq_getElem hk]; rfl
  rw [ea] at pa
  rw [eb] at pb
  rw [ea, eb] at pp hsv
  have e1 : IntKind.i64.wrap (a[i] * b[k]) = a[i] * b[k] := wrapI _ (by omega) (by omega)
  have e2 : IntKind.i64.wrap (o[i + k]?.getD 0 + a[i] * b[k]) = o[i + k]?.getD 0 + a[i] * b[k] := wrapI _ (by omega) (by omega)
  have e3 : IntKind.i64.wrap (o[i + k]?.getD 0 + a[i] * b[k] + c) = s := by rw [← hsv]; exact wrapI _ (by omega) (by omega)
  have e4 : s.tmod 1000000000 = s % 1000000000 := tmodB (by omega)
  have e5 : IntKind.i64.wrap (s.tdiv 1000000000) = s / 1000000000 := by rw [tdivB (by omega), wrapI _ (by omega) (by omega)]
  have e6 : IntKind.i64.wrap ((k : Int) + 1) = ((k + 1 : Nat) : Int) := by rw [wrapI _ (by omega) (by omega)]; omega
  show w_mul_L7_S0 sa a.length (a.map iD) sb b.length (b.map iD) (i : Int) x1 _ = _
  unfold w_mul_L7_S0
  rw [pullD_some (c, (k : Int), a.length + b.length + 1, o.map iD) (by rfl) (by rfl)]
  dsimp only
  rw [if_pos (by omega), eP, eN, guardP_pos (by omega), Int.toNat_natCast, readP o (i + k) (by omega), pullI, guardP_pos (by omega), readW (List.getElem?_eq_getElem hi), pullI, guardP_pos (by omega), readW (List.getElem?_eq_getElem hk), pullI, e1, e2, e3, e4, e5, e6,
    guardP_pos ⟨by rw [List.length_map]; omega, cellD_int _⟩, set_list o (i + k) _ (by omega)]
theorem mul_inner (sa sb : Int) (a b : List Int) (ha : Dig a) (hb : Dig b) (x1 : List D) (i : Nat) (hi : i < a.length) (hs : a.length + b.length ≤ 1000000000) : ∀ (r k : Nat) (c : Int) (o : List Int), b.length - k ≤ r → k ≤ b.length → 0 ≤ c → c < 1000000000 → Dig o → o.length = a.length + b.length + 1 →
    ∃ o' c', runR (w_mul_L7_S sa a.length (a.map iD) sb b.length (b.map iD) (i : Int) x1) (.next 0 [iD c, iD (k : Int), .list (a.length + b.length + 1) (o.map iD)]) = some (.out 0 [iD c', .list (a.length + b.length + 1) (o'.map iD)]) ∧ Dig o' ∧ o'.length = o.length ∧ 0 ≤ c' ∧ c' < 1000000000 ∧
      vl o' + (1000000000 : Int) ^ (i + b.length) * c' = vl o + (1000000000 : Int) ^ (i + k) * c + (1000000000 : Int) ^ i * (a[i]?.getD 0 * (vl b - vl (b.take k))) ∧ ∀ j, i + b.length ≤ j → o'[j]? = o[j]? := by
  intro r
  induction r with
  | zero =>
    intro k c o hr hk h0 h1 ho hl
    have : k = b.length := by omega
    subst this
    refine ⟨o, c, runR_exit ?_, ho, rfl, h0, h1, ?_, fun _ _ => rfl⟩
    · show w_mul_L7_S0 sa a.length (a.map iD) sb b.length (b.map iD) (i : Int) x1 _ = _
      unfold w_mul_L7_S0
      have eN : (IntKind.i64.wrap (IntKind.i64.wrap ((a.length : Int) + (b.length : Int)) + 1)).toNat = a.length + b.length + 1 := by
        rw [wrapI _ (by rw [wrapI _ (by omega) (by omega)]; omega) (by rw [wrapI _ (by omega) (by omega)]; omega), wrapI _ (by omega) (by omega)]; omega
      rw [pullD_some (c, (b.length : Int), a.length + b.length + 1, o.map iD) (by rfl) (by rfl)]
      dsimp only
      rw [if_neg (by omega), eN]
    · rw [List.take_length, Int.sub_self, Int.mul_zero, Int.mul_zero, Int.add_zero]
  | succ r ih =>
    intro k c o hr hk h0 h1 ho hl
    by_cases hkb : k < b.length
    · have pa := ha.at i
      have pb := hb.at k
      have po := ho.at (i + k)
      have pp := prod_bound pa.1 pa.2 pb.1 pb.2
      generalize hsv : o[i + k]?.getD 0 + a[i]?.getD 0 * b[k]?.getD 0 + c = s
      have st := mul_step sa sb a b o ha hb ho x1 i k c h0 h1 hi hkb hl hs s hsv.symm
      obtain ⟨o', c', q1, q2, q3, q4, q5, q6, q7⟩ := ih (k + 1) (s / 1000000000) (o.set (i + k) (s % 1000000000)) (by omega) (by omega) (by omega) (by omega) (ho.set _ (by omega) (by omega)) (by rw [List.length_set]; exact hl)
      refine ⟨o', c', (runR_next st).trans q1, q2, by rw [q3, List.length_set], q4, q5, ?_, fun j hj => ?_⟩
      · rw [q6, vl_set o (i + k) _ (by omega), vl_take_succ]
        have e : s = s % 1000000000 + 1000000000 * (s / 1000000000) := by omega
        generalize s % 1000000000 = x at *
        generalize s / 1000000000 = y at *
        rw [show i + (k + 1) = i + k + 1 by omega, Int.pow_succ, Int.pow_add]
        generalize (1000000000 : Int) ^ i = Q
        generalize (1000000000 : Int) ^ k = R
        generalize o[i + k]?.getD 0 = op at *
        generalize a[i]?.getD 0 = ai at *
        generalize b[k]?.getD 0 = bk at *
        grind
      · rw [q7 j hj, List.getElem?_set_ne (by omega)]
    · have : k = b.length := by omega
      subst this
      exact ih b.length c o (by omega) hk h0 h1 ho hl
theorem mul_outer (sa sb : Int) (a b : List Int) (ha : Dig a) (hb : Dig b) (hs : a.length + b.length ≤ 1000000000) : ∀ (r i : Nat) (o : List Int), a.length - i ≤ r → i ≤ a.length → Dig o → o.length = a.length + b.length + 1 → (∀ j, i + b.length ≤ j → o[j]?.getD 0 = 0) → vl o = vl (a.take i) * vl b →
    ∃ o', runR (w_mul_L3_S sa a.length (a.map iD) sb b.length (b.map iD)) (.next 0 [iD (i : Int), .list (a.length + b.length + 1) (o.map iD)]) = some (.out 0 [.list (a.length + b.length + 1) (o'.map iD)]) ∧ Dig o' ∧ o'.length = a.length + b.length + 1 ∧ vl o' = vl a * vl b := by
  have eN : (IntKind.i64.wrap (IntKind.i64.wrap ((a.length : Int) + (b.length : Int)) + 1)).toNat = a.length + b.length + 1 := by
    rw [wrapI _ (by rw [wrapI _ (by omega) (by omega)]; omega) (by rw [wrapI _ (by omega) (by omega)]; omega), wrapI _ (by omega) (by omega)]; omega
  intro r
  induction r with
  | zero =>
    intro i o hr hi ho hl hz hv
    have : i = a.length := by omega
    subst this
    refine ⟨o, runR_exit ?_, ho, hl, by rw [hv, List.take_length]⟩
    show w_mul_L3_S0 sa a.length (a.map iD) sb b.length (b.map iD) _ = _
    unfold w_mul_L3_S0
    rw [pullD_some ((a.length : Int), a.length + b.length + 1, o.map iD) (by rfl) (by rfl)]
    dsimp only
    rw [if_neg (by omega), eN]
  | succ r ih =>
    intro i o hr hi ho hl hz hv
    by_cases hia : i < a.length
    · obtain ⟨o', c', q1, q2, q3, q4, q5, q6, q7⟩ := mul_inner sa sb a b ha hb (o.map iD) i hia hs b.length 0 0 o (by omega) (by omega) (by decide) (by decide) ho hl
      have hp : i + b.length < o'.length := by omega
      have h3 : o'[i + b.length]?.getD 0 = 0 := by rw [q7 _ (Nat.le_refl _)]; exact hz _ (Nat.le_refl _)
      have eP : IntKind.i64.wrap ((i : Int) + (b.length : Int)) = ((i + b.length : Nat) : Int) := by rw [wrapI _ (by omega) (by omega)]; omega
      have e6 : IntKind.i64.wrap ((i : Int) + 1) = ((i + 1 : Nat) : Int) := by rw [wrapI _ (by omega) (by omega)]; omega
      have e7 : IntKind.i64.wrap (0 + c') = c' := by rw [Int.zero_add]; exact wrapI _ (by omega) (by omega)
      have st : w_mul_L3_S sa a.length (a.map iD) sb b.length (b.map iD) (.next 0 [iD (i : Int), .list (a.length + b.length + 1) (o.map iD)]) = some (.next 0 [iD ((i + 1 : Nat) : Int), .list (a.length + b.length + 1) ((o'.set (i + b.length) c').map iD)]) := by
        show w_mul_L3_S0 sa a.length (a.map iD) sb b.length (b.map iD) _ = _
        unfold w_mul_L3_S0
        rw [pullD_some ((i : Int), a.length + b.length + 1, o.map iD) (by rfl) (by rfl)]
        dsimp only
        have q1 : runR (w_mul_L7_S sa a.length (a.map iD) sb b.length (b.map iD) (i : Int) (o.map iD)) (.next 0 [.one (.int .i64 0), .one (.int .i64 0), .list (a.length + b.length + 1) (o.map iD)]) = some (.out 0 [iD c', .list (a.length + b.length + 1) (o'.map iD)]) := q1
        rw [if_pos (by omega), eP, eN, guardP_pos (by omega), q1, bindL_some rfl, if_pos rfl, pullD_some (c', a.length + b.length + 1, o'.map iD) (by rfl) (by rfl)]
        dsimp only
        rw [Int.toNat_natCast, readP o' (i + b.length) hp, pullI, h3, e7, guardP_pos ⟨by rw [List.length_map]; omega, cellD_int _⟩, set_list o' (i + b.length) _ hp, e6]
      obtain ⟨o2, r1, r2, r3, r4⟩ := ih (i + 1) (o'.set (i + b.length) c') (by omega) (by omega) (q2.set _ q4 q5) (by rw [List.length_set]; omega) (fun j hj => by
        rw [List.getElem?_set_ne (by omega), q7 j (by omega)]
        exact hz j (by omega)) (by
        rw [vl_set o' _ _ hp, h3, vl_take_succ, Int.sub_zero, q6, hv, List.take_zero]
        simp only [vl, Int.mul_zero, Int.add_zero, Int.sub_zero]
        grind)
      exact ⟨o2, (runR_next st).trans r1, r2, r3, r4⟩
    · have : i = a.length := by omega
      subst this
      exact ih a.length o (by omega) hi ho hl hz hv
theorem mul_eq (a b : Int) (hs : nd a + nd b ≤ 100000000) : m_94 [wD a, wD b] = some (wD (a * b)) := by
  unfold nd at hs
  rw [wD_cells a, wD_cells b, m_94_eq]
  unfold w_mul_M
  generalize hA : dg a.natAbs = A at *
  generalize hB : dg b.natAbs = B at *
  have dA : Dig A := by rw [← hA]; exact dg_dig _
  have dB : Dig B := by rw [← hB]; exact dg_dig _
  have vA : vl A = a.natAbs := by rw [← hA]; exact vl_dg _
  have vB : vl B = b.natAbs := by rw [← hB]; exact vl_dg _
  have eW : IntKind.i64.wrap (IntKind.i64.wrap ((A.length : Int) + (B.length : Int)) + 1) = ((A.length + B.length + 1 : Nat) : Int) := by
    rw [wrapI _ (by rw [wrapI _ (by omega) (by omega)]; omega) (by rw [wrapI _ (by omega) (by omega)]; omega), wrapI _ (by omega) (by omega)]; omega
  obtain ⟨o, q1, q2, q3, q4⟩ := mul_outer a.sign b.sign A B dA dB (by omega) A.length 0 (List.replicate (A.length + B.length + 1) 0) (by omega) (by omega) (fun x hx => by rw [List.mem_replicate] at hx; rw [hx.2]; decide) (by rw [List.length_replicate]) (fun j _ => by
    rw [List.getElem?_replicate]
    split <;> rfl) (by rw [vl_zeros]; simp [vl])
  have q1 : runR (w_mul_L3_S a.sign A.length (A.map iD) b.sign B.length (B.map iD)) (.next 0 [.one (.int .i64 0), .list (A.length + B.length + 1) ((List.replicate (A.length + B.length + 1) 0).map iD)]) = some (.out 0 [.list (A.length + B.length + 1) (o.map iD)]) := q1
  rw [eW, guardP_pos (by omega), guardP_pos (Nat.le_refl _), Int.toNat_natCast, zeros_list, q1, bindL_some rfl, if_pos rfl, pullD_some (A.length + B.length + 1, o.map iD) (by rfl) (by rfl)]
  dsimp only
  have sa := sign_cases a
  have sb := sign_cases b
  have es : IntKind.i64.wrap (a.sign * b.sign) = a.sign * b.sign := by
    rcases sa with h | h | h <;> rcases sb with g | g | g <;> rw [h.2.1, g.2.1] <;> rfl
  have ev : a.sign * b.sign * vl o = a * b := by
    rw [q4, vA, vB]
    have h1 := Int.sign_mul_natAbs a
    have h2 := Int.sign_mul_natAbs b
    generalize (a.natAbs : Int) = x at *
    generalize (b.natAbs : Int) = y at *
    rw [Int.mul_assoc, ← Int.mul_assoc b.sign, Int.mul_comm b.sign, Int.mul_assoc, h2, ← Int.mul_assoc, h1]
  have hw := wideOf_eq (s := a.sign * b.sign) (l := o) (by omega) q2 (by
    rw [q4, vA, vB]
    rcases sa with h | h | h <;> rcases sb with g | g | g <;> rw [h.2.1, g.2.1] <;> first
      | (left; rfl)
      | (right; left; rfl)
      | (right; right; rw [show a.natAbs = 0 by omega]; simp; done)
      | (right; right; rw [show b.natAbs = 0 by omega]; simp; done))
  rw [ev] at hw
  have hw : m_110 [.one (.int .i64 (a.sign * b.sign)), .list (A.length + B.length + 1) (o.map iD)] = some (wD (a * b)) := by
    rw [← q3]; exact hw
  rw [es, hw, pullD_some ((a * b).sign, (dg (a * b).natAbs).length, (dg (a * b).natAbs).map iD) (by rfl) (by rfl)]
  rfl
end Go.Proofs.Ytjjbacbjdilhmaa
/- Numbers of any size: quotients, rounded down. -/
namespace Go.Proofs.Ytjjbacbjdilhmaa
open Go.Ev Go.RowKit
set_option maxRecDepth 100000
theorem times_eq (b m : Nat) (hb : 0 < b) (hl : (dg b).length ≤ 10000000) (hm : m < 1000000000) :
    m_110 [.one (.int .i64 1), .list (dg b).length ((dg b).map iD)] = some (wD (b : Int)) ∧ m_92 [.one (.int .i64 (m : Int))] = some (wD (m : Int)) ∧ m_94 [wD (b : Int), wD (m : Int)] = some (wD ((b * m : Nat) : Int)) := by
  refine ⟨?_, of_eq m (by omega) (by omega), ?_⟩
  · have := wideOf_eq (s := 1) (l := dg b) (by omega) (dg_dig b) (.inl rfl)
    rw [vl_dg, Int.one_mul] at this
    exact this
  · have h2 : (dg m).length ≤ 1 := dg_len_le (by omega)
    rw [mul_eq (b : Int) (m : Int) (by unfold nd; rw [Int.natAbs_natCast, Int.natAbs_natCast]; omega)]
    rw [Int.natCast_mul]
theorem len_mul (b m : Nat) (hm : m < 1000000000) : (dg (b * m)).length ≤ (dg b).length + 1 := dg_len_le (by
  have := lt_of_dg_len b
  rw [Nat.pow_succ]
  rcases Nat.eq_zero_or_pos m with h | h
  · rw [h, Nat.mul_zero]; exact Nat.mul_pos (Nat.pow_pos (by decide)) (by decide)
  · calc b * m < 1000000000 ^ (dg b).length * m := Nat.mul_lt_mul_of_pos_right this h
      _ ≤ 1000000000 ^ (dg b).length * 1000000000 := Nat.mul_le_mul_left _ (by omega))
theorem floor_inner (sa : Int) (ka : Nat) (ca : List D) (sb : Int) (b : Nat) (hb : 0 < b) (hl : (dg b).length ≤ 10000000) (x0 : Nat) (x1 : List D) (x2 : Int) (x3 : List D) (x4 : Int) (lf : Nat) (hf : (dg lf).length ≤ 100000000) : ∀ (r lo hi : Nat), hi - lo ≤ r → lo ≤ hi → hi < 1000000000 → lo * b ≤ lf → lf < (hi + 1) * b →
    runR (w_floor_L9_S sa ka ca sb (dg b).length ((dg b).map iD) x0 x1 x2 x3 x4 (dg lf).length ((dg lf).map iD)) (.next 0 [iD (lo : Int), iD (hi : Int)]) = some (.out 0 [iD ((lf / b : Nat) : Int)]) := by
  intro r
  induction r with
  | zero =>
    intro lo hi h1 h2 h3 h4 h5
    have : hi = lo := by omega
    subst this
    have e : lf / b = hi := by
      have h6 := (Nat.le_div_iff_mul_le hb).2 h4
      have h7 := (Nat.div_lt_iff_lt_mul hb).2 h5
      omega
    refine runR_exit ?_
    show w_floor_L9_S0 sa ka ca sb (dg b).length ((dg b).map iD) x0 x1 x2 x3 x4 (dg lf).length ((dg lf).map iD) _ = _
    unfold w_floor_L9_S0
    rw [pullD_some ((hi : Int), (hi : Int)) (by rfl) (by rfl)]
    dsimp only
    rw [if_neg (by omega), e]
  | succ r ih =>
    intro lo hi h1 h2 h3 h4 h5
    by_cases hlt : lo < hi
    · generalize hm : (lo + hi + 1) / 2 = m
      have eM : IntKind.i64.wrap ((IntKind.i64.wrap (IntKind.i64.wrap ((lo : Int) + (hi : Int)) + 1)).tdiv 2) = (m : Int) := by
        have e1 : IntKind.i64.wrap ((lo : Int) + (hi : Int)) = (lo : Int) + (hi : Int) := wrapI _ (by omega) (by omega)
        rw [e1, wrapI ((lo : Int) + (hi : Int) + 1) (by omega) (by omega), Int.tdiv_eq_ediv_of_nonneg (by omega), wrapI _ (by omega) (by omega)]
        omega
      obtain ⟨t1, t2, t3⟩ := times_eq b m hb hl (by omega)
      have hlen := len_mul b m (by omega)
      have st : w_floor_L9_S sa ka ca sb (dg b).length ((dg b).map iD) x0 x1 x2 x3 x4 (dg lf).length ((dg lf).map iD) (.next 0 [iD (lo : Int), iD (hi : Int)]) = some (if b * m ≤ lf then .next 0 [iD (m : Int), iD (hi : Int)] else .next 0 [iD (lo : Int), iD ((m - 1 : Nat) : Int)]) := by
        show w_floor_L9_S0 sa ka ca sb (dg b).length ((dg b).map iD) x0 x1 x2 x3 x4 (dg lf).length ((dg lf).map iD) _ = _
        unfold w_floor_L9_S0
        rw [pullD_some ((lo : Int), (hi : Int)) (by rfl) (by rfl)]
        dsimp only
        rw [if_pos (by omega), t1, pullD_some ((b : Int).sign, (dg (b : Int).natAbs).length, (dg (b : Int).natAbs).map iD) (by rfl) (by rfl)]
        dsimp only
        rw [eM, t2, pullD_some ((m : Int).sign, (dg (m : Int).natAbs).length, (dg (m : Int).natAbs).map iD) (by rfl) (by rfl)]
        dsimp only
        rw [← wD_cells, ← wD_cells, t3, pullD_some (((b * m : Nat) : Int).sign, (dg ((b * m : Nat) : Int).natAbs).length, (dg ((b * m : Nat) : Int).natAbs).map iD) (by rfl) (by rfl)]
        dsimp only
        have hc := cmpDigits_eq (b * m) lf (by omega) (by omega)
        rw [Int.natAbs_natCast]
        rw [show [D.list (dg (b * m)).length ((dg (b * m)).map iD), D.list (dg lf).length ((dg lf).map iD)] = [lD (dg (b * m)), lD (dg lf)] from rfl, hc, pullI]
        unfold sgn3
        by_cases h6 : b * m ≤ lf
        · rw [if_pos h6, if_pos (by
            split
            · omega
            · rw [if_neg (by omega)]; omega)]
        · rw [if_neg h6, if_neg (by rw [if_neg (by omega), if_pos (by omega)]; omega), wrapI _ (by omega) (by omega)]
          have : (m : Int) - 1 = ((m - 1 : Nat) : Int) := by omega
          rw [this]
      by_cases h6 : b * m ≤ lf
      · rw [if_pos h6] at st
        rw [runR_next st]
        exact ih m hi (by omega) (by omega) h3 (by rw [Nat.mul_comm]; exact h6) h5
      · rw [if_neg h6] at st
        rw [runR_next st]
        exact ih lo (m - 1) (by omega) (by omega) (by omega) h4 (by rw [show m - 1 + 1 = m by omega, Nat.mul_comm]; omega)
    · exact ih lo hi (by omega) h2 h3 h4 h5
theorem drop_cons {l : List Int} {i : Nat} (h : i < l.length) : l.drop i = l[i] :: l.drop (i + 1) := List.drop_eq_getElem_cons h
theorem floor_outer (sa : Int) (A : List Int) (hA : Dig A) (sb : Int) (b : Nat) (hb : 0 < b) (hl : (dg b).length ≤ 10000000) (hn : A.length ≤ 10000000) : ∀ (i : Nat) (lf : Nat) (q : List Int), i ≤ A.length → lf < b → Dig q → q.length = A.length → (∀ j, j < i → q[j]? = some 0) → vl (A.drop i) = vl (q.drop i) * b + lf →
    ∃ (lf' : Nat) (q' : List Int), runR (w_floor_L5_S sa A.length (A.map iD) sb (dg b).length ((dg b).map iD)) (.next 0 [lD (dg lf), iD ((i : Int) - 1), .list A.length (q.map iD)]) = some (.out 0 [lD (dg lf'), .list A.length (q'.map iD)]) ∧ Dig q' ∧ q'.length = A.length ∧ lf' < b ∧ vl A = vl q' * b + lf' := by
  intro i
  induction i with
  | zero =>
    intro lf q hi hlf hq hql hz hv
    refine ⟨lf, q, runR_exit ?_, hq, hql, hlf, by simpa using hv⟩
    show w_floor_L5_S0 sa A.length (A.map iD) sb (dg b).length ((dg b).map iD) _ = _
    unfold w_floor_L5_S0
    rw [pullD_some ((dg lf).length, (dg lf).map iD, ((0 : Nat) : Int) - 1, A.length, q.map iD) (by rfl) (by rfl)]
    dsimp only
    rw [if_neg (by omega), Int.toNat_natCast]
  | succ i ih =>
    intro lf q hi hlf hq hql hz hv
    have hia : i < A.length := by omega
    have hd : 0 ≤ A[i] ∧ A[i] < 1000000000 := hA _ (List.getElem_mem hia)
    obtain ⟨d, hdv⟩ : ∃ d : Nat, A[i] = (d : Int) := ⟨A[i].toNat, by omega⟩
    generalize hF : d + 1000000000 * lf = F
    have hlf1 := dg_len_mono (show lf ≤ b by omega)
    have hFb : F < 1000000000 * b := by omega
    have hFl : (dg F).length ≤ (dg b).length + 1 := Nat.le_trans (dg_len_mono (show F ≤ b * 1000000000 by omega)) (by
      refine dg_len_le ?_
      rw [Nat.pow_succ]
      exact Nat.mul_lt_mul_of_pos_right (lt_of_dg_len b) (by decide))
    have e1 : (((i + 1 : Nat) : Int) - 1) = (i : Int) := by omega
    have tr : m_120 [.list (0 + 1 + (dg lf).length) (iD A[i] :: (dg lf).map iD)] = some (lD (dg F)) := by
      have h1 : D.list (0 + 1 + (dg lf).length) (iD A[i] :: (dg lf).map iD) = lD (A[i] :: dg lf) := by
        simp only [lD, List.length_cons, List.map_cons]
        rw [show 0 + 1 + (dg lf).length = (dg lf).length + 1 by omega]
      have h2 : Dig (A[i] :: dg lf) := fun x hx => by
        rcases List.mem_cons.1 hx with rfl | hx
        · exact hd
        · exact dg_dig lf x hx
      have h3 : (vl (A[i] :: dg lf)).toNat = F := by
        simp only [vl, vl_dg]
        omega
      rw [h1, trimmed_eq _ (by simp only [List.length_cons]; omega), take_keep h2, h3]
    have hinner := floor_inner sa A.length (A.map iD) sb b hb hl (dg lf).length ((dg lf).map iD) (i : Int) (q.map iD) A[i] F (by omega) 999999999 0 999999999 (by omega) (by omega) (by omega) (by omega) (by omega)
    have hQ : F / b < 1000000000 := (Nat.div_lt_iff_lt_mul hb).2 hFb
    obtain ⟨t1, t2, t3⟩ := times_eq b (F / b) hb hl hQ
    have hmul : b * (F / b) ≤ F := Nat.mul_div_le F b
    have hsub := subDigits_eq F (b * (F / b)) hmul (by omega)
    have hmod : F - b * (F / b) = F % b := by
      have := Nat.div_add_mod F b
      omega
    rw [hmod] at hsub
    have e2 : IntKind.i64.wrap ((i : Int) - 1) = (i : Int) - 1 := wrapI _ (by omega) (by omega)
    have st : w_floor_L5_S sa A.length (A.map iD) sb (dg b).length ((dg b).map iD) (.next 0 [lD (dg lf), iD (((i + 1 : Nat) : Int) - 1), .list A.length (q.map iD)]) = some (.next 0 [lD (dg (F % b)), iD ((i : Int) - 1), .list A.length ((q.set i ((F / b : Nat) : Int)).map iD)]) := by
      show w_floor_L5_S0 sa A.length (A.map iD) sb (dg b).length ((dg b).map iD) _ = _
      unfold w_floor_L5_S0
      rw [e1, pullD_some ((dg lf).length, (dg lf).map iD, (i : Int), A.length, q.map iD) (by rfl) (by rfl)]
      dsimp only
      have hcell : ∀ u, u ∈ (dg lf).map iD → cellD u := by
        intro u hu
        rw [List.mem_map] at hu
        obtain ⟨x, _, rfl⟩ := hu
        rfl
      have hinner : runR (w_floor_L9_S sa A.length (A.map iD) sb (dg b).length ((dg b).map iD) (dg lf).length ((dg lf).map iD) (i : Int) (q.map iD) A[i] (dg F).length ((dg F).map iD)) (.next 0 [.one (.int .i64 0), .one (.int .i64 999999999)]) = some (.out 0 [iD ((F / b : Nat) : Int)]) := hinner
      rw [if_pos (by omega), guardP_pos (by omega), readW (List.getElem?_eq_getElem hia), pullI, guardP_pos ⟨hcell, by omega, by omega, by omega⟩, guardP_pos (by simp), guardP_pos (by simp <;> omega), guardP_pos (by simp <;> omega), tr, pullD_some ((dg F).length, (dg F).map iD) (by rfl) (by rfl)]
      dsimp only
      rw [hinner, bindL_some rfl, if_pos rfl, pullD_some ((F / b : Nat) : Int) (by rfl) (by rfl), guardP_pos ⟨by simp; omega, cellD_int _⟩, t1, pullD_some ((b : Int).sign, (dg (b : Int).natAbs).length, (dg (b : Int).natAbs).map iD) (by rfl) (by rfl)]
      dsimp only
      rw [t2, pullD_some (((F / b : Nat) : Int).sign, (dg ((F / b : Nat) : Int).natAbs).length, (dg ((F / b : Nat) : Int).natAbs).map iD) (by rfl) (by rfl)]
      dsimp only
      rw [← wD_cells, ← wD_cells, t3, pullD_some (((b * (F / b) : Nat) : Int).sign, (dg ((b * (F / b) : Nat) : Int).natAbs).length, (dg ((b * (F / b) : Nat) : Int).natAbs).map iD) (by rfl) (by rfl)]
      dsimp only
      rw [Int.natAbs_natCast]
      rw [show [D.list (dg F).length ((dg F).map iD), D.list (dg (b * (F / b))).length ((dg (b * (F / b))).map iD)] = [lD (dg F), lD (dg (b * (F / b)))] from rfl, hsub, pullD_some ((dg (F % b)).length, (dg (F % b)).map iD) (by rfl) (by rfl)]
      dsimp only
      rw [e2, Int.toNat_natCast, Int.toNat_natCast, set_list q i _ (by omega)]
    obtain ⟨lf', q', r1, r2, r3, r4, r5⟩ := ih (F % b) (q.set i ((F / b : Nat) : Int)) (by omega) (Nat.mod_lt _ hb) (hq.set i (Int.natCast_nonneg _) (Int.ofNat_lt.2 hQ)) (by rw [List.length_set]; exact hql) (fun j hj => by rw [List.getElem?_set_ne (by omega)]; exact hz j (by omega)) (by
      rw [drop_cons hia]
      rw [drop_cons (l := q.set i ((F / b : Nat) : Int)) (by rw [List.length_set]; omega), List.getElem_set_self]
      have : (q.set i ((F / b : Nat) : Int)).drop (i + 1) = q.drop (i + 1) := by rw [List.drop_set_of_lt (by omega)]
      rw [this]
      simp only [vl]
      rw [hv, hdv]
      have h1 : ((F % b : Nat) : Int) + (b : Int) * ((F / b : Nat) : Int) = (F : Int) := by
        have := Nat.mod_add_div F b
        exact_mod_cast this
      have h2 : (F : Int) = d + 1000000000 * (lf : Int) := by omega
      generalize ((F % b : Nat) : Int) = R at *
      generalize ((F / b : Nat) : Int) = Q at *
      generalize vl (q.drop (i + 1)) = V at *
      grind)
    exact ⟨lf', q', (runR_next st).trans r1, r2, r3, r4, r5⟩
theorem floor_eq (a : Int) (b : Nat) (hb : 0 < b) (ha : nd a ≤ 10000000) (hl : (dg b).length ≤ 10000000) : m_115 [wD a, wD (b : Int)] = some (wD (a / (b : Int))) := by
  unfold nd at ha
  rw [wD_cells a, wD_cells (b : Int), Int.natAbs_natCast, m_115_eq]
  unfold w_floor_M
  have sa := sign_cases a
  by_cases h0 : a.sign = 0
  · rw [if_pos h0, show a = 0 by omega, Int.zero_ediv]
    unfold wD eD
    rw [show (0 : Int).natAbs = 0 from rfl, dg_zero]
    rfl
  rw [if_neg h0]
  generalize hA : dg a.natAbs = A at *
  have dA : Dig A := by rw [← hA]; exact dg_dig _
  have vA : vl A = a.natAbs := by rw [← hA]; exact vl_dg _
  obtain ⟨lf, q, q1, q2, q3, q4, q5⟩ := floor_outer a.sign A dA (b : Int).sign b hb hl ha A.length 0 (List.replicate A.length 0) (Nat.le_refl _) hb (fun x hx => by rw [List.mem_replicate] at hx; rw [hx.2]; decide) (by rw [List.length_replicate]) (fun j hj => by rw [List.getElem?_replicate, if_pos hj]) (by simp [vl])
  have q1 : runR (w_floor_L5_S a.sign A.length (A.map iD) (b : Int).sign (dg b).length ((dg b).map iD)) (.next 0 [.list 0 [], .one (.int .i64 ((A.length : Int) - 1)), .list A.length ((List.replicate A.length 0).map iD)]) = some (.out 0 [lD (dg lf), .list A.length (q.map iD)]) := by
    rw [dg_zero] at q1; exact q1
  have hq0 : 0 ≤ vl q := vl_nonneg q2
  rw [guardP_pos (by omega), guardP_pos (Nat.le_refl _), Int.toNat_natCast, zeros_list, wrapI ((A.length : Int) - 1) (by omega) (by omega), q1, bindL_some rfl, if_pos rfl, pullD_some ((dg lf).length, (dg lf).map iD, A.length, q.map iD) (by rfl) (by rfl)]
  dsimp only
  have hw := wideOf_eq (s := a.sign) (l := q) (by omega) q2 (by omega)
  have hw : m_110 [.one (.int .i64 a.sign), .list A.length (q.map iD)] = some (wD (a.sign * vl q)) := by rw [← q3]; exact hw
  rw [hw, pullD_some ((a.sign * vl q).sign, (dg (a.sign * vl q).natAbs).length, (dg (a.sign * vl q).natAbs).map iD) (by rfl) (by rfl)]
  dsimp only
  rw [vA] at q5
  have hqb : vl q ≤ a.natAbs := by
    have h1 : vl q * 1 ≤ vl q * (b : Int) := Int.mul_le_mul_of_nonneg_left (by omega) hq0
    omega
  have hndq : (dg (a.sign * vl q).natAbs).length ≤ 10000000 := by
    have h1 : (a.sign * vl q).natAbs ≤ a.natAbs := by
      rcases sa with h | h | h <;> rw [h.2.1] <;> omega
    have := dg_len_mono h1
    rw [hA] at this
    omega
  have uniq : ∀ z r : Int, r + (b : Int) * z = a → 0 ≤ r → r < b → a / (b : Int) = z := fun z r h1 h2 h3 => ((Int.ediv_emod_unique (by omega)).2 ⟨h1, h2, h3⟩).1
  by_cases h1 : a.sign < 0
  · rw [if_pos h1]
    have hs : a.sign = -1 := by omega
    have ea : (a.natAbs : Int) = -a := by omega
    rw [ea] at q5
    by_cases h2 : ((dg lf).length : Int) > 0
    · have hlf : 0 < lf := by
        rcases Nat.eq_zero_or_pos lf with h | h
        · rw [h, dg_zero] at h2; simp at h2
        · exact h
      have ez : a / (b : Int) = a.sign * vl q - 1 := uniq _ ((b : Int) - lf) (by
        rw [hs]
        grind) (by omega) (by omega)
      have hsub := sub_eq (a.sign * vl q) 1 (by unfold nd; omega) (by
        have : (dg (1 : Int).natAbs).length ≤ 1 := dg_len_le (by decide)
        unfold nd; omega)
      rw [← ez] at hsub
      unfold wD eD at hsub
      have h1w : m_92 [.one (.int .i64 1)] = some (wD 1) := of_eq 1 (by decide) (by decide)
      rw [if_pos h2, h1w, pullD_some ((1 : Int).sign, (dg (1 : Int).natAbs).length, (dg (1 : Int).natAbs).map iD) (by rfl) (by rfl)]
      dsimp only
      rw [hsub, pullD_some ((a / (b : Int)).sign, (dg (a / (b : Int)).natAbs).length, (dg (a / (b : Int)).natAbs).map iD) (by rfl) (by rfl)]
      rfl
    · have hlf : lf = 0 := by
        rcases Nat.eq_zero_or_pos lf with h | h
        · exact h
        · have := dg_ne h
          have : (dg lf).length ≠ 0 := fun h3 => this (List.length_eq_zero_iff.1 h3)
          omega
      have ez : a / (b : Int) = a.sign * vl q := uniq _ 0 (by
        rw [hs]
        rw [hlf] at q5
        grind) (by omega) (by omega)
      rw [if_neg h2, ez]
      rfl
  · rw [if_neg h1]
    have hs : a.sign = 1 := by omega
    have ea : (a.natAbs : Int) = a := by omega
    rw [ea] at q5
    have ez : a / (b : Int) = a.sign * vl q := uniq _ lf (by
      rw [hs]
      grind) (by omega) (by omega)
    rw [ez]
    rfl
end Go.Proofs.Ytjjbacbjdilhmaa
/- Fractions of numbers of any size. -/
namespace Go.Proofs.Ytjjbacbjdilhmaa
open Go.Ev Go.RowKit
set_option maxRecDepth 100000
theorem eD_cells (z : Int) : eD z = [iD z.sign, .list (dg z.natAbs).length ((dg z.natAbs).map iD)] := rfl
abbrev rD (q : Rat) : D := .agg (eD q.num ++ eD (q.den : Int))
theorem rD_cells (q : Rat) : rD q = .agg [iD q.num.sign, .list (dg q.num.natAbs).length ((dg q.num.natAbs).map iD), iD (q.den : Int).sign, .list (dg (q.den : Int).natAbs).length ((dg (q.den : Int).natAbs).map iD)] := rfl
theorem size_eq (a : Int) : m_121 [wD a] = some (wD (a.natAbs : Int)) := by
  rw [wD_cells a, m_121_eq]
  unfold w_size_M
  have sa := sign_cases a
  by_cases h : a.sign < 0
  · have ha := neg_eq a
    rw [wD_cells a] at ha
    have e : -a = (a.natAbs : Int) := by omega
    rw [e] at ha
    rw [if_pos h, ha, pullD_some ((a.natAbs : Int).sign, (dg (a.natAbs : Int).natAbs).length, (dg (a.natAbs : Int).natAbs).map iD) (by rfl) (by rfl)]
    rfl
  · have e : (a.natAbs : Int) = a := by omega
    rw [if_neg h, e]
    rfl
theorem gcd_step (sa : Int) (ka : Nat) (ca : List D) (sb : Int) (kb : Nat) (cb : List D) (x0 : Int) (x1 : Nat) (x2 : List D) (x3 : Int) (x4 : Nat) (x5 : List D) (x y : Nat) (hy : 0 < y) (hx1 : (dg x).length ≤ 10000000) (hy1 : (dg y).length ≤ 10000000) :
    w_gcd_L2_S sa ka ca sb kb cb x0 x1 x2 x3 x4 x5 (.next 0 (eD (x : Int) ++ eD (y : Int))) = some (.next 0 (eD (y : Int) ++ eD ((x % y : Nat) : Int))) := by
  show w_gcd_L2_S0 sa ka ca sb kb cb x0 x1 x2 x3 x4 x5 _ = _
  unfold w_gcd_L2_S0
  rw [eD_cells (x : Int), eD_cells (y : Int), pullD_some ((x : Int).sign, (dg (x : Int).natAbs).length, (dg (x : Int).natAbs).map iD, (y : Int).sign, (dg (y : Int).natAbs).length, (dg (y : Int).natAbs).map iD) (by rfl) (by rfl)]
  dsimp only
  have hs : (y : Int).sign = 1 := Int.sign_eq_one_of_pos (by omega)
  have hq : (dg (x / y)).length ≤ (dg x).length := dg_len_mono (Nat.div_le_self x y)
  have hf := floor_eq (x : Int) y hy (by unfold nd; rw [Int.natAbs_natCast]; exact hx1) hy1
  have e1 : (x : Int) / (y : Int) = ((x / y : Nat) : Int) := by simp
  rw [e1] at hf
  have hm := mul_eq ((x / y : Nat) : Int) (y : Int) (by unfold nd; rw [Int.natAbs_natCast, Int.natAbs_natCast]; omega)
  have e2 : ((x / y : Nat) : Int) * (y : Int) = ((x / y * y : Nat) : Int) := by simp
  rw [e2] at hm
  have hle : x / y * y ≤ x := Nat.div_mul_le_self x y
  have hsb := sub_eq (x : Int) ((x / y * y : Nat) : Int) (by unfold nd; rw [Int.natAbs_natCast]; omega) (by unfold nd; rw [Int.natAbs_natCast]; have := dg_len_mono hle; omega)
  have e3 : (x : Int) - ((x / y * y : Nat) : Int) = ((x % y : Nat) : Int) := by
    have := Nat.mod_add_div x y
    rw [Nat.mul_comm] at this
    omega
  rw [e3] at hsb
  have hsg := sign_eq (y : Int)
  rw [wD_cells (y : Int)] at hsg
  rw [wD_cells (x : Int), wD_cells (y : Int)] at hf
  rw [wD_cells (y : Int)] at hm
  rw [wD_cells (x : Int)] at hsb
  rw [hsg, pullI, if_pos (by rw [hs]; decide), hf, pullD_some (((x / y : Nat) : Int).sign, (dg ((x / y : Nat) : Int).natAbs).length, (dg ((x / y : Nat) : Int).natAbs).map iD) (by rfl) (by rfl)]
  dsimp only
  rw [← wD_cells ((x / y : Nat) : Int), hm, pullD_some (((x / y * y : Nat) : Int).sign, (dg ((x / y * y : Nat) : Int).natAbs).length, (dg ((x / y * y : Nat) : Int).natAbs).map iD) (by rfl) (by rfl)]
  dsimp only
  rw [← wD_cells ((x / y * y : Nat) : Int), hsb, pullD_some (((x % y : Nat) : Int).sign, (dg ((x % y : Nat) : Int).natAbs).length, (dg ((x % y : Nat) : Int).natAbs).map iD) (by rfl) (by rfl)]
  rfl
theorem gcd_go (sa : Int) (ka : Nat) (ca : List D) (sb : Int) (kb : Nat) (cb : List D) (x0 : Int) (x1 : Nat) (x2 : List D) (x3 : Int) (x4 : Nat) (x5 : List D) : ∀ (y x : Nat), (dg x).length ≤ 10000000 → (dg y).length ≤ 10000000 →
    runR (w_gcd_L2_S sa ka ca sb kb cb x0 x1 x2 x3 x4 x5) (.next 0 (eD (x : Int) ++ eD (y : Int))) = some (.out 0 (eD ((Nat.gcd x y : Nat) : Int) ++ eD 0)) := by
  intro y
  induction y using Nat.strongRecOn with
  | ind y ih =>
    intro x hx hy
    rcases Nat.eq_zero_or_pos y with h | h
    · subst h
      rw [Nat.gcd_zero_right]
      refine runR_exit ?_
      show w_gcd_L2_S0 sa ka ca sb kb cb x0 x1 x2 x3 x4 x5 _ = _
      unfold w_gcd_L2_S0
      have hsg := sign_eq ((0 : Nat) : Int)
      rw [wD_cells] at hsg
      rw [eD_cells (x : Int), eD_cells ((0 : Nat) : Int), pullD_some ((x : Int).sign, (dg (x : Int).natAbs).length, (dg (x : Int).natAbs).map iD, ((0 : Nat) : Int).sign, (dg ((0 : Nat) : Int).natAbs).length, (dg ((0 : Nat) : Int).natAbs).map iD) (by rfl) (by rfl)]
      dsimp only
      rw [hsg, pullI, if_neg (by decide)]
      rfl
    · rw [runR_next (gcd_step sa ka ca sb kb cb x0 x1 x2 x3 x4 x5 x y h hx hy)]
      have hlt := Nat.mod_lt x h
      rw [ih (x % y) hlt y hy (Nat.le_trans (dg_len_mono (Nat.le_of_lt hlt)) hy), Nat.gcd_comm y, ← Nat.gcd_rec, Nat.gcd_comm]
theorem gcd_eq (a b : Int) (ha : nd a ≤ 10000000) (hb : nd b ≤ 10000000) : m_113 [wD a, wD b] = some (wD ((Int.gcd a b : Nat) : Int)) := by
  rw [wD_cells a, wD_cells b, m_113_eq]
  unfold w_gcd_M
  have h1 := size_eq a
  have h2 := size_eq b
  rw [wD_cells a] at h1
  rw [wD_cells b] at h2
  rw [h1, pullD_some ((a.natAbs : Int).sign, (dg (a.natAbs : Int).natAbs).length, (dg (a.natAbs : Int).natAbs).map iD) (by rfl) (by rfl)]
  dsimp only
  rw [h2, pullD_some ((b.natAbs : Int).sign, (dg (b.natAbs : Int).natAbs).length, (dg (b.natAbs : Int).natAbs).map iD) (by rfl) (by rfl)]
  dsimp only
  have hg := gcd_go a.sign (dg a.natAbs).length ((dg a.natAbs).map iD) b.sign (dg b.natAbs).length ((dg b.natAbs).map iD) (a.natAbs : Int).sign (dg (a.natAbs : Int).natAbs).length ((dg (a.natAbs : Int).natAbs).map iD) (b.natAbs : Int).sign (dg (b.natAbs : Int).natAbs).length ((dg (b.natAbs : Int).natAbs).map iD) b.natAbs a.natAbs ha hb
  rw [eD_cells (a.natAbs : Int), eD_cells (b.natAbs : Int)] at hg
  simp only [List.cons_append, List.nil_append] at hg
  rw [hg, bindL_some rfl, if_pos rfl, pullD_some (((Nat.gcd a.natAbs b.natAbs : Nat) : Int).sign, (dg ((Nat.gcd a.natAbs b.natAbs : Nat) : Int).natAbs).length, (dg ((Nat.gcd a.natAbs b.natAbs : Nat) : Int).natAbs).map iD, (0 : Int).sign, (dg (0 : Int).natAbs).length, (dg (0 : Int).natAbs).map iD) (by rfl) (by rfl)]
  rfl
theorem nd_neg (a : Int) : nd (-a) = nd a := by unfold nd; rw [Int.natAbs_neg]
theorem nd_mono {a b : Int} (h : a.natAbs ≤ b.natAbs) : nd a ≤ nd b := dg_len_mono h
theorem one_w : m_92 [.one (.int .i64 1)] = some (.agg [iD (1 : Int).sign, .list (dg (1 : Int).natAbs).length ((dg (1 : Int).natAbs).map iD)]) := of_eq 1 (by decide) (by decide)
theorem nd_one : nd 1 ≤ 1 := dg_len_le (by decide)
/-- A fraction in lowest terms, out of parts of which the lower one is above 0. -/
theorem low_parts (n d : Int) (hd : 0 < d) : (Rat.divInt n d).num = n / ((Int.gcd n d : Nat) : Int) ∧ ((Rat.divInt n d).den : Int) = d / ((Int.gcd n d : Nat) : Int) := by
  refine ⟨?_, ?_⟩
  · rw [Rat.num_divInt, Int.sign_eq_one_of_pos hd, Int.one_mul, Int.gcd_comm]
  · rw [Rat.den_divInt, if_neg (by omega), Int.gcd_comm]
    obtain ⟨k, rfl⟩ : ∃ k : Nat, d = (k : Int) := ⟨d.natAbs, by omega⟩
    simp
theorem make_eq (n d : Int) (hd : d ≠ 0) (hn : nd n ≤ 10000000) (hdd : nd d ≤ 10000000) : m_93 [wD n, wD d] = some (rD (Rat.divInt n d)) := by
  rw [wD_cells n, wD_cells d, m_93_eq]
  unfold w_make_M
  have hsg := sign_eq d
  rw [wD_cells d] at hsg
  rw [hsg, pullI]
  have sd := sign_cases d
  have core : ∀ n d : Int, 0 < d → nd n ≤ 10000000 → nd d ≤ 10000000 → ∃ g : Nat, 0 < g ∧ m_113 [wD n, wD d] = some (wD (g : Int)) ∧ m_114 [wD (g : Int), wD 1] = some (iD ((g : Int) - 1).sign) ∧ m_115 [wD n, wD (g : Int)] = some (wD (Rat.divInt n d).num) ∧ m_115 [wD d, wD (g : Int)] = some (wD ((Rat.divInt n d).den : Int)) ∧ (g = 1 → (Rat.divInt n d).num = n ∧ ((Rat.divInt n d).den : Int) = d) := by
    intro n d hd hn hdd
    obtain ⟨p1, p2⟩ := low_parts n d hd
    have hg0 : 0 < Int.gcd n d := Int.gcd_pos_of_ne_zero_right _ (by omega)
    have hgl : (dg (Int.gcd n d)).length ≤ 10000000 := by
      have h1 : Int.gcd n d ≤ d.natAbs := Nat.le_of_dvd (by omega) (Int.gcd_dvd_natAbs_right n d)
      exact Nat.le_trans (dg_len_mono h1) hdd
    refine ⟨Int.gcd n d, hg0, gcd_eq n d hn hdd, cmp_eq _ _ (by unfold nd; rw [Int.natAbs_natCast]; omega) (by have := nd_one; omega), ?_, ?_, fun h1 => ?_⟩
    · rw [p1]; exact floor_eq n _ hg0 hn hgl
    · rw [p2]; exact floor_eq d _ hg0 hdd hgl
    · rw [p1, p2, h1]; simp
  have csign : ∀ g : Nat, 0 < g → (((g : Int) - 1).sign = 0 ↔ g = 1) := fun g hg => by
    rw [Int.sign_eq_zero_iff_zero]; omega
  by_cases h : d.sign < 0
  · have hn' := neg_eq n
    have hd' := neg_eq d
    rw [wD_cells n] at hn'
    rw [wD_cells d] at hd'
    obtain ⟨g, g0, g1, g2, g3, g4, g5⟩ := core (-n) (-d) (by omega) (by rw [nd_neg]; exact hn) (by rw [nd_neg]; exact hdd)
    rw [show Rat.divInt (-n) (-d) = Rat.divInt n d from by rw [Rat.divInt_eq_divInt_iff (by omega) hd]; grind] at g3 g4 g5
    rw [if_pos h, hn', pullD_some ((-n).sign, (dg (-n).natAbs).length, (dg (-n).natAbs).map iD) (by rfl) (by rfl)]
    dsimp only
    rw [hd', pullD_some ((-d).sign, (dg (-d).natAbs).length, (dg (-d).natAbs).map iD) (by rfl) (by rfl)]
    dsimp only
    rw [← wD_cells (-n), ← wD_cells (-d), g1, pullD_some ((g : Int).sign, (dg (g : Int).natAbs).length, (dg (g : Int).natAbs).map iD) (by rfl) (by rfl)]
    dsimp only
    rw [one_w, pullD_some ((1 : Int).sign, (dg (1 : Int).natAbs).length, (dg (1 : Int).natAbs).map iD) (by rfl) (by rfl)]
    dsimp only
    rw [← wD_cells (g : Int), ← wD_cells 1, g2, pullI]
    by_cases hg : g = 1
    · rw [if_pos ((csign g g0).2 hg), rD_cells, (g5 hg).1, (g5 hg).2]
    · rw [if_neg (fun h => hg ((csign g g0).1 h)), g3, pullD_some ((Rat.divInt n d).num.sign, (dg (Rat.divInt n d).num.natAbs).length, (dg (Rat.divInt n d).num.natAbs).map iD) (by rfl) (by rfl)]
      dsimp only
      rw [g4, pullD_some (((Rat.divInt n d).den : Int).sign, (dg ((Rat.divInt n d).den : Int).natAbs).length, (dg ((Rat.divInt n d).den : Int).natAbs).map iD) (by rfl) (by rfl)]
      rfl
  · obtain ⟨g, g0, g1, g2, g3, g4, g5⟩ := core n d (by omega) hn hdd
    rw [if_neg h, ← wD_cells n, ← wD_cells d, g1, pullD_some ((g : Int).sign, (dg (g : Int).natAbs).length, (dg (g : Int).natAbs).map iD) (by rfl) (by rfl)]
    dsimp only
    rw [one_w, pullD_some ((1 : Int).sign, (dg (1 : Int).natAbs).length, (dg (1 : Int).natAbs).map iD) (by rfl) (by rfl)]
    dsimp only
    rw [← wD_cells (g : Int), ← wD_cells 1, g2, pullI]
    by_cases hg : g = 1
    · rw [if_pos ((csign g g0).2 hg), rD_cells, (g5 hg).1, (g5 hg).2]
    · rw [if_neg (fun h => hg ((csign g g0).1 h)), g3, pullD_some ((Rat.divInt n d).num.sign, (dg (Rat.divInt n d).num.natAbs).length, (dg (Rat.divInt n d).num.natAbs).map iD) (by rfl) (by rfl)]
      dsimp only
      rw [g4, pullD_some (((Rat.divInt n d).den : Int).sign, (dg ((Rat.divInt n d).den : Int).natAbs).length, (dg ((Rat.divInt n d).den : Int).natAbs).map iD) (by rfl) (by rfl)]
      rfl
end Go.Proofs.Ytjjbacbjdilhmaa
