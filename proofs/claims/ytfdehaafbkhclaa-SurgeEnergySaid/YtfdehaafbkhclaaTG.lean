/- For any line, state and source, valid or not, the law SurgeEnergy of the program answers true, and its arguments read as they did. CONDITIONS: none. -/
import Derived.Test.YtfdehaafbkhclaaTF
import Derived.Test.YtfdehaafbkhclaaTE
import Derived.Test.YtfdehaafbkhclaaTA
import Derived.Test.YtfdehaafbkhclaaTD
set_option linter.unusedVariables false
set_option linter.unusedSimpArgs false
set_option linter.unusedSectionVars false
set_option linter.unnecessarySimpa false
/- The rest. -/
namespace Go.Proofs.Ytfdehaafbkhclaa
open Go.Ev Go.RowKit
set_option maxRecDepth 100000
set_option maxHeartbeats 8000000
set_option linter.all false
noncomputable section
def law5_M_s0 (ky : Nat) (cy : List D) (er : Bool) (ka : Nat) (ca : List D) (kb : Nat) (cb : List D) (src : Int) (r0 : Bool) (r1 : Bool) (r2 : Int) : Option D := pullD (α := Bool) (m_24 [iD src, iD (-1000 : Int), iD (1000 : Int)]) (fun d => ((D.vb d))) (fun r3 => .one (.bool r3)) fun r3 => ((if r3 = false then some (.one (.bool true)) else pullD (α := Nat × (List D) × Bool) (m_9 [.agg [.list ky cy, .one (.bool er)]]) (fun d => ((D.ln (D.at d 0)), (D.lc (D.at d 0)), (D.vb (D.at d 1)))) (fun (k4, c5, r6) => .agg [.list k4 c5, .one (.bool r6)]) fun (k4, c5, r6) => (pullD (α := Nat × (List D) × Nat × (List D)) (m_11 [.agg [.list ka ca, .list kb cb]]) (fun d => ((D.ln (D.at d 0)), (D.lc (D.at d 0)), (D.ln (D.at d 1)), (D.lc (D.at d 1)))) (fun (k7, c8, k9, c10) => .agg [.list k7 c8, .list k9 c10]) fun (k7, c8, k9, c10) => (pullD (α := Int × Int) (m_12 [.agg [.list k4 c5, .one (.bool r6)], .agg [.list k7 c8, .list k9 c10]]) (fun d => ((D.vi (D.at d 0)), (D.vi (D.at d 1)))) (fun (r11, r12) => .tup [iD r11, iD r12]) fun (r11, r12) => (pullD (α := Nat × (List D) × Bool) (m_9 [.agg [.list ky cy, .one (.bool er)]]) (fun d => ((D.ln (D.at d 0)), (D.lc (D.at d 0)), (D.vb (D.at d 1)))) (fun (k13, c14, r15) => .agg [.list k13 c14, .one (.bool r15)]) fun (k13, c14, r15) => (pullD (α := Nat × (List D) × Nat × (List D)) (m_11 [.agg [.list ka ca, .list kb cb]]) (fun d => ((D.ln (D.at d 0)), (D.lc (D.at d 0)), (D.ln (D.at d 1)), (D.lc (D.at d 1)))) (fun (k16, c17, k18, c19) => .agg [.list k16 c17, .list k18 c19]) fun (k16, c17, k18, c19) => (pullD (α := Nat × (List D) × Nat × (List D) × Nat × (List D) × Int) (m_10 [.agg [.list k13 c14, .one (.bool r15)], .agg [.list k16 c17, .list k18 c19], iD (0 : Int)]) (fun d => ((D.ln (D.at (D.at d 0) 0)), (D.lc (D.at (D.at d 0) 0)), (D.ln (D.at (D.at d 0) 1)), (D.lc (D.at (D.at d 0) 1)), (D.ln (D.at d 1)), (D.lc (D.at d 1)), (D.vi (D.at d 2)))) (fun (k20, c21, k22, c23, k24, c25, r26) => .tup [.agg [.list k20 c21, .list k22 c23], .list k24 c25, iD r26]) fun (k20, c21, k22, c23, k24, c25, r26) => ((if r12 ≠ (0 : Int) then some (.one (.bool false)) else (if r26 ≠ (0 : Int) then (if r26 ≠ (22 : Int) then some (.one (.bool false)) else pullD (α := Nat × (List D) × Bool) (m_9 [.agg [.list ky cy, .one (.bool er)]]) (fun d => ((D.ln (D.at d 0)), (D.lc (D.at d 0)), (D.vb (D.at d 1)))) (fun (k27, c28, r29) => .agg [.list k27 c28, .one (.bool r29)]) fun (k27, c28, r29) => (pullD (α := Nat × (List D) × Nat × (List D)) (m_11 [.agg [.list ka ca, .list kb cb]]) (fun d => ((D.ln (D.at d 0)), (D.lc (D.at d 0)), (D.ln (D.at d 1)), (D.lc (D.at d 1)))) (fun (k30, c31, k32, c33) => .agg [.list k30 c31, .list k32 c33]) fun (k30, c31, k32, c33) => (pullD (α := Nat × (List D) × Nat × (List D) × Nat × (List D) × Int) (m_10 [.agg [.list k27 c28, .one (.bool r29)], .agg [.list k30 c31, .list k32 c33], iD src]) (fun d => ((D.ln (D.at (D.at d 0) 0)), (D.lc (D.at (D.at d 0) 0)), (D.ln (D.at (D.at d 0) 1)), (D.lc (D.at (D.at d 0) 1)), (D.ln (D.at d 1)), (D.lc (D.at d 1)), (D.vi (D.at d 2)))) (fun (k34, c35, k36, c37, k38, c39, r40) => .tup [.agg [.list k34 c35, .list k36 c37], .list k38 c39, iD r40]) fun (k34, c35, k36, c37, k38, c39, r40) => (pullD (α := Nat × (List D) × Bool) (m_9 [.agg [.list ky cy, .one (.bool er)]]) (fun d => ((D.ln (D.at d 0)), (D.lc (D.at d 0)), (D.vb (D.at d 1)))) (fun (k41, c42, r43) => .agg [.list k41 c42, .one (.bool r43)]) fun (k41, c42, r43) => (pullD (α := Nat × (List D) × Nat × (List D)) (m_25 [.agg [.list ka ca, .list kb cb]]) (fun d => ((D.ln (D.at d 0)), (D.lc (D.at d 0)), (D.ln (D.at d 1)), (D.lc (D.at d 1)))) (fun (k44, c45, k46, c47) => .agg [.list k44 c45, .list k46 c47]) fun (k44, c45, k46, c47) => (pullD (α := Nat × (List D) × Nat × (List D) × Nat × (List D) × Int) (m_10 [.agg [.list k41 c42, .one (.bool r43)], .agg [.list k44 c45, .list k46 c47], iD (IntKind.i64.wrap ((0 : Int) - src))]) (fun d => ((D.ln (D.at (D.at d 0) 0)), (D.lc (D.at (D.at d 0) 0)), (D.ln (D.at (D.at d 0) 1)), (D.lc (D.at (D.at d 0) 1)), (D.ln (D.at d 1)), (D.lc (D.at d 1)), (D.vi (D.at d 2)))) (fun (k48, c49, k50, c51, k52, c53, r54) => .tup [.agg [.list k48 c49, .list k50 c51], .list k52 c53, iD r54]) fun (k48, c49, k50, c51, k52, c53, r54) => ((if r40 ≠ r54 then some (.one (.bool false)) else (if (k38 : Int) ≠ (k52 : Int) then some (.one (.bool false)) else pullD (α := Nat × (List D) × Nat × (List D)) (m_25 [.agg [.list k34 c35, .list k36 c37]]) (fun d => ((D.ln (D.at d 0)), (D.lc (D.at d 0)), (D.ln (D.at d 1)), (D.lc (D.at d 1)))) (fun (k55, c56, k57, c58) => .agg [.list k55 c56, .list k57 c58]) fun (k55, c56, k57, c58) => (pullD (α := Bool) (m_15 [.agg [.list k48 c49, .list k50 c51], .agg [.list k55 c56, .list k57 c58]]) (fun d => ((D.vb d))) (fun r59 => .one (.bool r59)) fun r59 => ((if r59 = false then some (.one (.bool false)) else bindL (runR (law5_L18_S ky cy er ka ca kb cb src r0 r1 r2 r3 k4 c5 r6 k7 c8 k9 c10 r11 r12 k13 c14 r15 k16 c17 k18 c19 k20 c21 k22 c23 k24 c25 r26 k27 c28 r29 k30 c31 k32 c33 k34 c35 k36 c37 k38 c39 r40 k41 c42 r43 k44 c45 k46 c47 k48 c49 k50 c51 k52 c53 r54 k55 c56 k57 c58 r59) (.next 0 [iD ((0 : Int))])) fun j ds => (if j = 0 then pullD (some (.tup ds)) (fun _ => ()) (fun _ => .tup []) fun _ => (bindL (runR (law5_L23_S ky cy er ka ca kb cb src r0 r1 r2 r3 k4 c5 r6 k7 c8 k9 c10 r11 r12 k13 c14 r15 k16 c17 k18 c19 k20 c21 k22 c23 k24 c25 r26 k27 c28 r29 k30 c31 k32 c33 k34 c35 k36 c37 k38 c39 r40 k41 c42 r43 k44 c45 k46 c47 k48 c49 k50 c51 k52 c53 r54 k55 c56 k57 c58 r59) (.next 0 [iD ((1 : Int))])) fun j ds => (if j = 0 then pullD (some (.tup ds)) (fun _ => ()) (fun _ => .tup []) fun _ => ((if (er) = true then pullD (α := Nat × (List D) × Nat × (List D)) (m_11 [.agg [.list ka ca, .list kb cb]]) (fun d => ((D.ln (D.at d 0)), (D.lc (D.at d 0)), (D.ln (D.at d 1)), (D.lc (D.at d 1)))) (fun (k60, c61, k62, c63) => .agg [.list k60 c61, .list k62 c63]) fun (k60, c61, k62, c63) => (bindL (runR (law5_L32_S ky cy er ka ca kb cb src r0 r1 r2 r3 k4 c5 r6 k7 c8 k9 c10 r11 r12 k13 c14 r15 k16 c17 k18 c19 k20 c21 k22 c23 k24 c25 r26 k27 c28 r29 k30 c31 k32 c33 k34 c35 k36 c37 k38 c39 r40 k41 c42 r43 k44 c45 k46 c47 k48 c49 k50 c51 k52 c53 r54 k55 c56 k57 c58 r59 k60 c61 k62 c63) (.next 0 [iD ((0 : Int)), .list (k60) (c61), .list (k62) (c63)])) fun j ds => (if j = 0 then pullD (α := Nat × (List D) × Nat × (List D)) (some (.tup ds)) (fun d => ((D.ln (D.at d 0)), (D.lc (D.at d 0)), (D.ln (D.at d 1)), (D.lc (D.at d 1)))) (fun (k64, c65, k66, c67) => .tup [.list k64 c65, .list k66 c67]) fun (k64, c65, k66, c67) => (pullD (α := Bool) (m_15 [.agg [.list k64 c65, .list k66 c67], .agg [.list ka ca, .list kb cb]]) (fun d => ((D.vb d))) (fun r68 => .one (.bool r68)) fun r68 => (some (.one (.bool r68)))) else if j = 1 then pullD (α := Bool × Nat × (List D) × Nat × (List D)) (some (.tup ds)) (fun d => ((D.vb (D.at d 0)), (D.ln (D.at d 1)), (D.lc (D.at d 1)), (D.ln (D.at d 2)), (D.lc (D.at d 2)))) (fun (l69, k70, c71, k72, c73) => .tup [.one (.bool l69), .list k70 c71, .list k72 c73]) fun (l69, k70, c71, k72, c73) => (some (.one (.bool l69))) else none)) else pullD (α := Nat × (List D) × Nat × (List D)) (m_11 [.agg [.list ka ca, .list kb cb]]) (fun d => ((D.ln (D.at d 0)), (D.lc (D.at d 0)), (D.ln (D.at d 1)), (D.lc (D.at d 1)))) (fun (k74, c75, k76, c77) => .agg [.list k74 c75, .list k76 c77]) fun (k74, c75, k76, c77) => (bindL (runR (law5_L32_3_S ky cy er ka ca kb cb src r0 r1 r2 r3 k4 c5 r6 k7 c8 k9 c10 r11 r12 k13 c14 r15 k16 c17 k18 c19 k20 c21 k22 c23 k24 c25 r26 k27 c28 r29 k30 c31 k32 c33 k34 c35 k36 c37 k38 c39 r40 k41 c42 r43 k44 c45 k46 c47 k48 c49 k50 c51 k52 c53 r54 k55 c56 k57 c58 r59 k74 c75 k76 c77) (.next 0 [iD ((0 : Int)), .list (k74) (c75), .list (k76) (c77)])) fun j ds => (if j = 0 then pullD (α := Nat × (List D) × Nat × (List D)) (some (.tup ds)) (fun d => ((D.ln (D.at d 0)), (D.lc (D.at d 0)), (D.ln (D.at d 1)), (D.lc (D.at d 1)))) (fun (k78, c79, k80, c81) => .tup [.list k78 c79, .list k80 c81]) fun (k78, c79, k80, c81) => (pullD (α := Bool) (m_15 [.agg [.list k78 c79, .list k80 c81], .agg [.list ka ca, .list kb cb]]) (fun d => ((D.vb d))) (fun r82 => .one (.bool r82)) fun r82 => (some (.one (.bool r82)))) else if j = 1 then pullD (α := Bool × Nat × (List D) × Nat × (List D)) (some (.tup ds)) (fun d => ((D.vb (D.at d 0)), (D.ln (D.at d 1)), (D.lc (D.at d 1)), (D.ln (D.at d 2)), (D.lc (D.at d 2)))) (fun (l83, k84, c85, k86, c87) => .tup [.one (.bool l83), .list k84 c85, .list k86 c87]) fun (l83, k84, c85, k86, c87) => (some (.one (.bool l83))) else none)))) else if j = 1 then pullD (α := Bool) (some (.tup ds)) (fun d => ((D.vb (D.at d 0)))) (fun l88 => .tup [.one (.bool l88)]) fun l88 => (some (.one (.bool l88))) else none)) else if j = 1 then pullD (α := Bool) (some (.tup ds)) (fun d => ((D.vb (D.at d 0)))) (fun l89 => .tup [.one (.bool l89)]) fun l89 => (some (.one (.bool l89))) else none))))))))))))) else pullD (α := Nat × (List D) × Bool) (m_9 [.agg [.list ky cy, .one (.bool er)]]) (fun d => ((D.ln (D.at d 0)), (D.lc (D.at d 0)), (D.vb (D.at d 1)))) (fun (k90, c91, r92) => .agg [.list k90 c91, .one (.bool r92)]) fun (k90, c91, r92) => (pullD (α := Nat × (List D) × Nat × (List D)) (m_11 [.agg [.list k20 c21, .list k22 c23]]) (fun d => ((D.ln (D.at d 0)), (D.lc (D.at d 0)), (D.ln (D.at d 1)), (D.lc (D.at d 1)))) (fun (k93, c94, k95, c96) => .agg [.list k93 c94, .list k95 c96]) fun (k93, c94, k95, c96) => (pullD (α := Int × Int) (m_12 [.agg [.list k90 c91, .one (.bool r92)], .agg [.list k93 c94, .list k95 c96]]) (fun d => ((D.vi (D.at d 0)), (D.vi (D.at d 1)))) (fun (r97, r98) => .tup [iD r97, iD r98]) fun (r97, r98) => ((if r98 ≠ (0 : Int) then some (.one (.bool false)) else (if r97 < (0 : Int) then some (.one (.bool false)) else (if r97 > r11 then some (.one (.bool false)) else pullD (α := Nat × (List D) × Bool) (m_9 [.agg [.list ky cy, .one (.bool er)]]) (fun d => ((D.ln (D.at d 0)), (D.lc (D.at d 0)), (D.vb (D.at d 1)))) (fun (k99, c100, r101) => .agg [.list k99 c100, .one (.bool r101)]) fun (k99, c100, r101) => (pullD (α := Nat × (List D) × Nat × (List D)) (m_11 [.agg [.list ka ca, .list kb cb]]) (fun d => ((D.ln (D.at d 0)), (D.lc (D.at d 0)), (D.ln (D.at d 1)), (D.lc (D.at d 1)))) (fun (k102, c103, k104, c105) => .agg [.list k102 c103, .list k104 c105]) fun (k102, c103, k104, c105) => (pullD (α := Nat × (List D) × Nat × (List D) × Nat × (List D) × Int) (m_10 [.agg [.list k99 c100, .one (.bool r101)], .agg [.list k102 c103, .list k104 c105], iD src]) (fun d => ((D.ln (D.at (D.at d 0) 0)), (D.lc (D.at (D.at d 0) 0)), (D.ln (D.at (D.at d 0) 1)), (D.lc (D.at (D.at d 0) 1)), (D.ln (D.at d 1)), (D.lc (D.at d 1)), (D.vi (D.at d 2)))) (fun (k106, c107, k108, c109, k110, c111, r112) => .tup [.agg [.list k106 c107, .list k108 c109], .list k110 c111, iD r112]) fun (k106, c107, k108, c109, k110, c111, r112) => (pullD (α := Nat × (List D) × Bool) (m_9 [.agg [.list ky cy, .one (.bool er)]]) (fun d => ((D.ln (D.at d 0)), (D.lc (D.at d 0)), (D.vb (D.at d 1)))) (fun (k113, c114, r115) => .agg [.list k113 c114, .one (.bool r115)]) fun (k113, c114, r115) => (pullD (α := Nat × (List D) × Nat × (List D)) (m_25 [.agg [.list ka ca, .list kb cb]]) (fun d => ((D.ln (D.at d 0)), (D.lc (D.at d 0)), (D.ln (D.at d 1)), (D.lc (D.at d 1)))) (fun (k116, c117, k118, c119) => .agg [.list k116 c117, .list k118 c119]) fun (k116, c117, k118, c119) => (pullD (α := Nat × (List D) × Nat × (List D) × Nat × (List D) × Int) (m_10 [.agg [.list k113 c114, .one (.bool r115)], .agg [.list k116 c117, .list k118 c119], iD (IntKind.i64.wrap ((0 : Int) - src))]) (fun d => ((D.ln (D.at (D.at d 0) 0)), (D.lc (D.at (D.at d 0) 0)), (D.ln (D.at (D.at d 0) 1)), (D.lc (D.at (D.at d 0) 1)), (D.ln (D.at d 1)), (D.lc (D.at d 1)), (D.vi (D.at d 2)))) (fun (k120, c121, k122, c123, k124, c125, r126) => .tup [.agg [.list k120 c121, .list k122 c123], .list k124 c125, iD r126]) fun (k120, c121, k122, c123, k124, c125, r126) => ((if r112 ≠ r126 then some (.one (.bool false)) else (if (k110 : Int) ≠ (k124 : Int) then some (.one (.bool false)) else pullD (α := Nat × (List D) × Nat × (List D)) (m_25 [.agg [.list k106 c107, .list k108 c109]]) (fun d => ((D.ln (D.at d 0)), (D.lc (D.at d 0)), (D.ln (D.at d 1)), (D.lc (D.at d 1)))) (fun (k127, c128, k129, c130) => .agg [.list k127 c128, .list k129 c130]) fun (k127, c128, k129, c130) => (pullD (α := Bool) (m_15 [.agg [.list k120 c121, .list k122 c123], .agg [.list k127 c128, .list k129 c130]]) (fun d => ((D.vb d))) (fun r131 => .one (.bool r131)) fun r131 => ((if r131 = false then some (.one (.bool false)) else bindL (runR (law5_L18_4_S ky cy er ka ca kb cb src r0 r1 r2 r3 k4 c5 r6 k7 c8 k9 c10 r11 r12 k13 c14 r15 k16 c17 k18 c19 k20 c21 k22 c23 k24 c25 r26 k90 c91 r92 k93 c94 k95 c96 r97 r98 k99 c100 r101 k102 c103 k104 c105 k106 c107 k108 c109 k110 c111 r112 k113 c114 r115 k116 c117 k118 c119 k120 c121 k122 c123 k124 c125 r126 k127 c128 k129 c130 r131) (.next 0 [iD ((0 : Int))])) fun j ds => (if j = 0 then pullD (some (.tup ds)) (fun _ => ()) (fun _ => .tup []) fun _ => (bindL (runR (law5_L23_5_S ky cy er ka ca kb cb src r0 r1 r2 r3 k4 c5 r6 k7 c8 k9 c10 r11 r12 k13 c14 r15 k16 c17 k18 c19 k20 c21 k22 c23 k24 c25 r26 k90 c91 r92 k93 c94 k95 c96 r97 r98 k99 c100 r101 k102 c103 k104 c105 k106 c107 k108 c109 k110 c111 r112 k113 c114 r115 k116 c117 k118 c119 k120 c121 k122 c123 k124 c125 r126 k127 c128 k129 c130 r131) (.next 0 [iD ((1 : Int))])) fun j ds => (if j = 0 then pullD (some (.tup ds)) (fun _ => ()) (fun _ => .tup []) fun _ => ((if (er) = true then pullD (α := Nat × (List D) × Nat × (List D)) (m_11 [.agg [.list ka ca, .list kb cb]]) (fun d => ((D.ln (D.at d 0)), (D.lc (D.at d 0)), (D.ln (D.at d 1)), (D.lc (D.at d 1)))) (fun (k132, c133, k134, c135) => .agg [.list k132 c133, .list k134 c135]) fun (k132, c133, k134, c135) => (bindL (runR (law5_L32_6_S ky cy er ka ca kb cb src r0 r1 r2 r3 k4 c5 r6 k7 c8 k9 c10 r11 r12 k13 c14 r15 k16 c17 k18 c19 k20 c21 k22 c23 k24 c25 r26 k90 c91 r92 k93 c94 k95 c96 r97 r98 k99 c100 r101 k102 c103 k104 c105 k106 c107 k108 c109 k110 c111 r112 k113 c114 r115 k116 c117 k118 c119 k120 c121 k122 c123 k124 c125 r126 k127 c128 k129 c130 r131 k132 c133 k134 c135) (.next 0 [iD ((0 : Int)), .list (k132) (c133), .list (k134) (c135)])) fun j ds => (if j = 0 then pullD (α := Nat × (List D) × Nat × (List D)) (some (.tup ds)) (fun d => ((D.ln (D.at d 0)), (D.lc (D.at d 0)), (D.ln (D.at d 1)), (D.lc (D.at d 1)))) (fun (k136, c137, k138, c139) => .tup [.list k136 c137, .list k138 c139]) fun (k136, c137, k138, c139) => (pullD (α := Bool) (m_15 [.agg [.list k136 c137, .list k138 c139], .agg [.list ka ca, .list kb cb]]) (fun d => ((D.vb d))) (fun r140 => .one (.bool r140)) fun r140 => (some (.one (.bool r140)))) else if j = 1 then pullD (α := Bool × Nat × (List D) × Nat × (List D)) (some (.tup ds)) (fun d => ((D.vb (D.at d 0)), (D.ln (D.at d 1)), (D.lc (D.at d 1)), (D.ln (D.at d 2)), (D.lc (D.at d 2)))) (fun (l141, k142, c143, k144, c145) => .tup [.one (.bool l141), .list k142 c143, .list k144 c145]) fun (l141, k142, c143, k144, c145) => (some (.one (.bool l141))) else none)) else pullD (α := Nat × (List D) × Nat × (List D)) (m_11 [.agg [.list ka ca, .list kb cb]]) (fun d => ((D.ln (D.at d 0)), (D.lc (D.at d 0)), (D.ln (D.at d 1)), (D.lc (D.at d 1)))) (fun (k146, c147, k148, c149) => .agg [.list k146 c147, .list k148 c149]) fun (k146, c147, k148, c149) => (bindL (runR (law5_L32_7_S ky cy er ka ca kb cb src r0 r1 r2 r3 k4 c5 r6 k7 c8 k9 c10 r11 r12 k13 c14 r15 k16 c17 k18 c19 k20 c21 k22 c23 k24 c25 r26 k90 c91 r92 k93 c94 k95 c96 r97 r98 k99 c100 r101 k102 c103 k104 c105 k106 c107 k108 c109 k110 c111 r112 k113 c114 r115 k116 c117 k118 c119 k120 c121 k122 c123 k124 c125 r126 k127 c128 k129 c130 r131 k146 c147 k148 c149) (.next 0 [iD ((0 : Int)), .list (k146) (c147), .list (k148) (c149)])) fun j ds => (if j = 0 then pullD (α := Nat × (List D) × Nat × (List D)) (some (.tup ds)) (fun d => ((D.ln (D.at d 0)), (D.lc (D.at d 0)), (D.ln (D.at d 1)), (D.lc (D.at d 1)))) (fun (k150, c151, k152, c153) => .tup [.list k150 c151, .list k152 c153]) fun (k150, c151, k152, c153) => (pullD (α := Bool) (m_15 [.agg [.list k150 c151, .list k152 c153], .agg [.list ka ca, .list kb cb]]) (fun d => ((D.vb d))) (fun r154 => .one (.bool r154)) fun r154 => (some (.one (.bool r154)))) else if j = 1 then pullD (α := Bool × Nat × (List D) × Nat × (List D)) (some (.tup ds)) (fun d => ((D.vb (D.at d 0)), (D.ln (D.at d 1)), (D.lc (D.at d 1)), (D.ln (D.at d 2)), (D.lc (D.at d 2)))) (fun (l155, k156, c157, k158, c159) => .tup [.one (.bool l155), .list k156 c157, .list k158 c159]) fun (l155, k156, c157, k158, c159) => (some (.one (.bool l155))) else none)))) else if j = 1 then pullD (α := Bool) (some (.tup ds)) (fun d => ((D.vb (D.at d 0)))) (fun l160 => .tup [.one (.bool l160)]) fun l160 => (some (.one (.bool l160))) else none)) else if j = 1 then pullD (α := Bool) (some (.tup ds)) (fun d => ((D.vb (D.at d 0)))) (fun l161 => .tup [.one (.bool l161)]) fun l161 => (some (.one (.bool l161))) else none))))))))))))))))))))))))))))
def law5_M (ky : Nat) (cy : List D) (er : Bool) (ka : Nat) (ca : List D) (kb : Nat) (cb : List D) (src : Int) : Option D := pullD (α := Bool) (m_6 []) (fun d => ((D.vb d))) (fun r0 => .one (.bool r0)) fun r0 => ((if r0 = false then some (.one (.bool false)) else pullD (α := Bool) (m_7 [.agg [.list ky cy, .one (.bool er)]]) (fun d => ((D.vb d))) (fun r1 => .one (.bool r1)) fun r1 => ((if r1 = false then some (.one (.bool true)) else pullD (α := Int) (m_17 [.agg [.list ky cy, .one (.bool er)], .agg [.list ka ca, .list kb cb]]) (fun d => ((D.vi d))) (fun r2 => iD r2) fun r2 => ((if r2 ≠ (0 : Int) then some (.one (.bool true)) else law5_M_s0 ky cy er ka ca kb cb src r0 r1 r2))))))
theorem law5_M_s0_ok (ky : Nat) (cy : List D) (er : Bool) (ka : Nat) (ca : List D) (kb : Nat) (cb : List D) (src : Int) (r0 : Bool) (r1 : Bool) (r2 : Int) (f1_ : Con 6 [] (.one (.bool r0))) (b5_ : r0 = true) (f6_ : Con 7 [.agg [.list ky cy, .one (.bool er)]] (.one (.bool r1))) (b10_ : r1 = true) (f11_ : Con 17 [.agg [.list ky cy, .one (.bool er)], .agg [.list ka ca, .list kb cb]] (iD r2)) (b15_ : r2 = (0 : Int)) {r : D} (h : law5_M_s0 ky cy er ka ca kb cb src r0 r1 r2 = some r) : Con 5 [.agg [.list ky cy, .one (.bool er)], .agg [.list ka ca, .list kb cb], iD src] r := by
  unfold law5_M_s0 at h
  obtain ⟨r3, fq1_, hq2_⟩ := pullD_elim h
  replace fq1_ := m_24_ok fq1_
  by_cases bq3_ : r3 = false
  · have hq4_ := (if_pos bq3_).symm.trans hq2_
    obtain rfl := Option.some.inj hq4_
    exact con_pc (op := true) (I := [5]) (sp := law5_sp) 3000 (bF 10 (bT 1 [])) [.one (.bool r0), .one (.bool r1), iD r2, .one (.bool r3)] [c_nn b5_, c_nn b10_, c_nn b10_, c_nn b10_, c_nn b10_, c_nn b10_, c_bn b15_, c_bn b15_, c_bn b15_, c_bn b15_, c_no bq3_] [k_c f1_, k_c f6_, k_c f11_, k_c fq1_] (by kernel_rfl)
  have hq4_ := (if_neg bq3_).symm.trans hq2_
  have bq5_ : r3 = true := by first | exact bq3_ | simpa using bq3_
  obtain ⟨⟨k4, c5, r6⟩, fq6_, hq7_⟩ := pullD_elim hq4_
  replace fq6_ := m_9_ok fq6_
  obtain ⟨⟨k7, c8, k9, c10⟩, fq8_, hq9_⟩ := pullD_elim hq7_
  replace fq8_ := m_11_ok fq8_
  obtain ⟨⟨r11, r12⟩, fq10_, hq11_⟩ := pullD_elim hq9_
  replace fq10_ := m_12_ok fq10_
  obtain ⟨⟨k13, c14, r15⟩, fq12_, hq13_⟩ := pullD_elim hq11_
  replace fq12_ := m_9_ok fq12_
  obtain ⟨⟨k16, c17, k18, c19⟩, fq14_, hq15_⟩ := pullD_elim hq13_
  replace fq14_ := m_11_ok fq14_
  obtain ⟨⟨k20, c21, k22, c23, k24, c25, r26⟩, fq16_, hq17_⟩ := pullD_elim hq15_
  replace fq16_ := m_10_ok fq16_
  by_cases bq18_ : r12 ≠ (0 : Int)
  · have hq19_ := (if_pos bq18_).symm.trans hq17_
    obtain rfl := Option.some.inj hq19_
    exact con_pc (op := true) (I := [5]) (sp := law5_sp) 3000 (bF 11 (bT 6 [])) [.one (.bool r0), .one (.bool r1), iD r2, .one (.bool r3), .agg [.list k4 c5, .one (.bool r6)], .agg [.list k7 c8, .list k9 c10], .tup [iD r11, iD r12], .agg [.list k13 c14, .one (.bool r15)], .agg [.list k16 c17, .list k18 c19], .tup [.agg [.list k20 c21, .list k22 c23], .list k24 c25, iD r26]] [c_nn b5_, c_nn b10_, c_nn b10_, c_nn b10_, c_nn b10_, c_nn b10_, c_bn b15_, c_bn b15_, c_bn b15_, c_bn b15_, c_nn bq5_, c_b bq18_, c_b bq18_, c_b bq18_, c_b bq18_, c_b bq18_, c_T] [k_c f1_, k_c f6_, k_c f11_, k_c fq1_, k_c fq6_, k_c fq8_, k_c fq10_, k_c fq12_, k_c fq14_, k_c fq16_] (by kernel_rfl)
  have hq19_ := (if_neg bq18_).symm.trans hq17_
  have bq20_ : r12 = (0 : Int) := by first | exact bq18_ | simpa using bq18_
  by_cases bq21_ : r26 ≠ (0 : Int)
  · have hq22_ := (if_pos bq21_).symm.trans hq19_
    by_cases bq23_ : r26 ≠ (22 : Int)
    · have hq24_ := (if_pos bq23_).symm.trans hq22_
      obtain rfl := Option.some.inj hq24_
      exact con_pc (op := true) (I := [5]) (sp := law5_sp) 3000 (bF 14 (bT 2 (bF 1 (bT 1 (bF 1 (bT 1 [])))))) [.one (.bool r0), .one (.bool r1), iD r2, .one (.bool r3), .agg [.list k4 c5, .one (.bool r6)], .agg [.list k7 c8, .list k9 c10], .tup [iD r11, iD r12], .agg [.list k13 c14, .one (.bool r15)], .agg [.list k16 c17, .list k18 c19], .tup [.agg [.list k20 c21, .list k22 c23], .list k24 c25, iD r26]] [c_nn b5_, c_nn b10_, c_nn b10_, c_nn b10_, c_nn b10_, c_nn b10_, c_bn b15_, c_bn b15_, c_bn b15_, c_bn b15_, c_nn bq5_, c_bn bq20_, c_bn bq20_, c_bn bq20_, c_b bq21_, c_b bq21_, c_bn bq20_, c_b bq21_, c_bn bq20_, c_b bq23_] [k_c f1_, k_c f6_, k_c f11_, k_c fq1_, k_c fq6_, k_c fq8_, k_c fq10_, k_c fq12_, k_c fq14_, k_c fq16_] (by kernel_rfl)
    have hq24_ := (if_neg bq23_).symm.trans hq22_
    have bq25_ : r26 = (22 : Int) := by first | exact bq23_ | simpa using bq23_
    obtain ⟨⟨k27, c28, r29⟩, fq26_, hq27_⟩ := pullD_elim hq24_
    replace fq26_ := m_9_ok fq26_
    obtain ⟨⟨k30, c31, k32, c33⟩, fq28_, hq29_⟩ := pullD_elim hq27_
    replace fq28_ := m_11_ok fq28_
    obtain ⟨⟨k34, c35, k36, c37, k38, c39, r40⟩, fq30_, hq31_⟩ := pullD_elim hq29_
    replace fq30_ := m_10_ok fq30_
    obtain ⟨⟨k41, c42, r43⟩, fq32_, hq33_⟩ := pullD_elim hq31_
    replace fq32_ := m_9_ok fq32_
    obtain ⟨⟨k44, c45, k46, c47⟩, fq34_, hq35_⟩ := pullD_elim hq33_
    replace fq34_ := m_25_ok fq34_
    obtain ⟨⟨k48, c49, k50, c51, k52, c53, r54⟩, fq36_, hq37_⟩ := pullD_elim hq35_
    replace fq36_ := m_10_ok fq36_
    by_cases bq38_ : r40 ≠ r54
    · have hq39_ := (if_pos bq38_).symm.trans hq37_
      obtain rfl := Option.some.inj hq39_
      exact con_pc (op := true) (I := [5]) (sp := law5_sp) 3000 (bF 14 (bT 2 (bF 1 (bT 1 (bF 3 (bT 13 [])))))) [.one (.bool r0), .one (.bool r1), iD r2, .one (.bool r3), .agg [.list k4 c5, .one (.bool r6)], .agg [.list k7 c8, .list k9 c10], .tup [iD r11, iD r12], .agg [.list k13 c14, .one (.bool r15)], .agg [.list k16 c17, .list k18 c19], .tup [.agg [.list k20 c21, .list k22 c23], .list k24 c25, iD r26], .agg [.list k27 c28, .one (.bool r29)], .agg [.list k30 c31, .list k32 c33], .tup [.agg [.list k34 c35, .list k36 c37], .list k38 c39, iD r40], .agg [.list k41 c42, .one (.bool r43)], .agg [.list k44 c45, .list k46 c47], .tup [.agg [.list k48 c49, .list k50 c51], .list k52 c53, iD r54]] [c_nn b5_, c_nn b10_, c_nn b10_, c_nn b10_, c_nn b10_, c_nn b10_, c_bn b15_, c_bn b15_, c_bn b15_, c_bn b15_, c_nn bq5_, c_bn bq20_, c_bn bq20_, c_bn bq20_, c_b bq21_, c_b bq21_, c_bn bq20_, c_b bq21_, c_bn bq20_, c_bn bq25_, c_en bq21_, c_b bq38_, c_b bq38_, c_b bq38_, c_b bq38_, c_b bq38_, c_b bq38_, c_T, c_T, c_T, c_T, c_T, c_T, c_T] [k_c f1_, k_c f6_, k_c f11_, k_c fq1_, k_c fq6_, k_c fq8_, k_c fq10_, k_c fq12_, k_c fq14_, k_c fq16_, k_c fq26_, k_c fq28_, k_c fq30_, k_c fq32_, k_c fq34_, k_c fq36_] (by kernel_rfl)
    have hq39_ := (if_neg bq38_).symm.trans hq37_
    have bq40_ : r40 = r54 := by first | exact bq38_ | simpa using bq38_
    by_cases bq41_ : (k38 : Int) ≠ (k52 : Int)
    · have hq42_ := (if_pos bq41_).symm.trans hq39_
      obtain rfl := Option.some.inj hq42_
      exact con_pc (op := true) (I := [5]) (sp := law5_sp) 3000 (bF 14 (bT 2 (bF 1 (bT 1 (bF 9 (bT 7 [])))))) [.one (.bool r0), .one (.bool r1), iD r2, .one (.bool r3), .agg [.list k4 c5, .one (.bool r6)], .agg [.list k7 c8, .list k9 c10], .tup [iD r11, iD r12], .agg [.list k13 c14, .one (.bool r15)], .agg [.list k16 c17, .list k18 c19], .tup [.agg [.list k20 c21, .list k22 c23], .list k24 c25, iD r26], .agg [.list k27 c28, .one (.bool r29)], .agg [.list k30 c31, .list k32 c33], .tup [.agg [.list k34 c35, .list k36 c37], .list k38 c39, iD r40], .agg [.list k41 c42, .one (.bool r43)], .agg [.list k44 c45, .list k46 c47], .tup [.agg [.list k48 c49, .list k50 c51], .list k52 c53, iD r54]] [c_nn b5_, c_nn b10_, c_nn b10_, c_nn b10_, c_nn b10_, c_nn b10_, c_bn b15_, c_bn b15_, c_bn b15_, c_bn b15_, c_nn bq5_, c_bn bq20_, c_bn bq20_, c_bn bq20_, c_b bq21_, c_b bq21_, c_bn bq20_, c_b bq21_, c_bn bq20_, c_bn bq25_, c_en bq21_, c_bn bq40_, c_bn bq40_, c_bn bq40_, c_bn bq40_, c_bn bq40_, c_bn bq40_, c_b bq41_, c_b bq41_, c_b bq41_, c_b bq41_, c_b bq41_, c_b bq41_, c_T] [k_c f1_, k_c f6_, k_c f11_, k_c fq1_, k_c fq6_, k_c fq8_, k_c fq10_, k_c fq12_, k_c fq14_, k_c fq16_, k_c fq26_, k_c fq28_, k_c fq30_, k_c fq32_, k_c fq34_, k_c fq36_] (by kernel_rfl)
    have hq42_ := (if_neg bq41_).symm.trans hq39_
    have bq43_ : (k38 : Int) = (k52 : Int) := by first | exact bq41_ | simpa using bq41_
    obtain ⟨⟨k55, c56, k57, c58⟩, fq44_, hq45_⟩ := pullD_elim hq42_
    replace fq44_ := m_25_ok fq44_
    obtain ⟨r59, fq46_, hq47_⟩ := pullD_elim hq45_
    replace fq46_ := m_15_ok fq46_
    by_cases bq48_ : r59 = false
    · have hq49_ := (if_pos bq48_).symm.trans hq47_
      obtain rfl := Option.some.inj hq49_
      exact con_pc (op := true) (I := [5]) (sp := law5_sp) 3000 (bF 14 (bT 2 (bF 1 (bT 1 (bF 15 (bT 1 [])))))) [.one (.bool r0), .one (.bool r1), iD r2, .one (.bool r3), .agg [.list k4 c5, .one (.bool r6)], .agg [.list k7 c8, .list k9 c10], .tup [iD r11, iD r12], .agg [.list k13 c14, .one (.bool r15)], .agg [.list k16 c17, .list k18 c19], .tup [.agg [.list k20 c21, .list k22 c23], .list k24 c25, iD r26], .agg [.list k27 c28, .one (.bool r29)], .agg [.list k30 c31, .list k32 c33], .tup [.agg [.list k34 c35, .list k36 c37], .list k38 c39, iD r40], .agg [.list k41 c42, .one (.bool r43)], .agg [.list k44 c45, .list k46 c47], .tup [.agg [.list k48 c49, .list k50 c51], .list k52 c53, iD r54], .agg [.list k55 c56, .list k57 c58], .one (.bool r59)] [c_nn b5_, c_nn b10_, c_nn b10_, c_nn b10_, c_nn b10_, c_nn b10_, c_bn b15_, c_bn b15_, c_bn b15_, c_bn b15_, c_nn bq5_, c_bn bq20_, c_bn bq20_, c_bn bq20_, c_b bq21_, c_b bq21_, c_bn bq20_, c_b bq21_, c_bn bq20_, c_bn bq25_, c_en bq21_, c_bn bq40_, c_bn bq40_, c_bn bq40_, c_bn bq40_, c_bn bq40_, c_bn bq40_, c_bn bq43_, c_bn bq43_, c_bn bq43_, c_bn bq43_, c_bn bq43_, c_bn bq43_, c_no bq48_] [k_c f1_, k_c f6_, k_c f11_, k_c fq1_, k_c fq6_, k_c fq8_, k_c fq10_, k_c fq12_, k_c fq14_, k_c fq16_, k_c fq26_, k_c fq28_, k_c fq30_, k_c fq32_, k_c fq34_, k_c fq36_, k_c fq44_, k_c fq46_] (by kernel_rfl)
    have hq49_ := (if_neg bq48_).symm.trans hq47_
    have bq50_ : r59 = true := by first | exact bq48_ | simpa using bq48_
    obtain ⟨j, ds, eq51_, hq52_⟩ := bindL_elim hq49_
    by_cases jq53_ : j = 0
    · have hq56_ := (if_pos jq53_).symm.trans hq52_
      clear hq52_
      subst jq53_
      obtain ⟨⟨⟩, eq54_, hq57_⟩ := pullD_elim hq56_
      clear hq56_
      obtain rfl := tup_inj eq54_
      have kq55_ := law5_L18_in0 ky cy er ka ca kb cb src r0 r1 r2 r3 k4 c5 r6 k7 c8 k9 c10 r11 r12 k13 c14 r15 k16 c17 k18 c19 k20 c21 k22 c23 k24 c25 r26 k27 c28 r29 k30 c31 k32 c33 k34 c35 k36 c37 k38 c39 r40 k41 c42 r43 k44 c45 k46 c47 k48 c49 k50 c51 k52 c53 r54 k55 c56 k57 c58 r59 eq51_
      obtain ⟨j, ds, eq58_, hq59_⟩ := bindL_elim hq57_
      by_cases jq60_ : j = 0
      · have hq63_ := (if_pos jq60_).symm.trans hq59_
        clear hq59_
        subst jq60_
        obtain ⟨⟨⟩, eq61_, hq64_⟩ := pullD_elim hq63_
        clear hq63_
        obtain rfl := tup_inj eq61_
        have kq62_ := law5_L23_in0 ky cy er ka ca kb cb src r0 r1 r2 r3 k4 c5 r6 k7 c8 k9 c10 r11 r12 k13 c14 r15 k16 c17 k18 c19 k20 c21 k22 c23 k24 c25 r26 k27 c28 r29 k30 c31 k32 c33 k34 c35 k36 c37 k38 c39 r40 k41 c42 r43 k44 c45 k46 c47 k48 c49 k50 c51 k52 c53 r54 k55 c56 k57 c58 r59 eq58_
        by_cases bq65_ : (er) = true
        · have hq66_ := (if_pos bq65_).symm.trans hq64_
          obtain ⟨⟨k60, c61, k62, c63⟩, fq67_, hq68_⟩ := pullD_elim hq66_
          replace fq67_ := m_11_ok fq67_
          obtain ⟨j, ds, eq69_, hq70_⟩ := bindL_elim hq68_
          by_cases jq71_ : j = 0
          · have hq74_ := (if_pos jq71_).symm.trans hq70_
            clear hq70_
            subst jq71_
            obtain ⟨⟨k64, c65, k66, c67⟩, eq72_, hq75_⟩ := pullD_elim hq74_
            clear hq74_
            obtain rfl := tup_inj eq72_
            have kq73_ := law5_L32_in0 ky cy er ka ca kb cb src r0 r1 r2 r3 k4 c5 r6 k7 c8 k9 c10 r11 r12 k13 c14 r15 k16 c17 k18 c19 k20 c21 k22 c23 k24 c25 r26 k27 c28 r29 k30 c31 k32 c33 k34 c35 k36 c37 k38 c39 r40 k41 c42 r43 k44 c45 k46 c47 k48 c49 k50 c51 k52 c53 r54 k55 c56 k57 c58 r59 k60 c61 k62 c63 eq69_
            obtain ⟨r68, fq76_, hq77_⟩ := pullD_elim hq75_
            replace fq76_ := m_15_ok fq76_
            obtain rfl := Option.some.inj hq77_
            exact con_pc (op := true) (I := [5]) (sp := law5_sp) 3000 (bF 14 (bT 2 (bF 1 (bT 1 (bF 16 (bT 1 [])))))) [.one (.bool r0), .one (.bool r1), iD r2, .one (.bool r3), .agg [.list k4 c5, .one (.bool r6)], .agg [.list k7 c8, .list k9 c10], .tup [iD r11, iD r12], .agg [.list k13 c14, .one (.bool r15)], .agg [.list k16 c17, .list k18 c19], .tup [.agg [.list k20 c21, .list k22 c23], .list k24 c25, iD r26], .agg [.list k27 c28, .one (.bool r29)], .agg [.list k30 c31, .list k32 c33], .tup [.agg [.list k34 c35, .list k36 c37], .list k38 c39, iD r40], .agg [.list k41 c42, .one (.bool r43)], .agg [.list k44 c45, .list k46 c47], .tup [.agg [.list k48 c49, .list k50 c51], .list k52 c53, iD r54], .agg [.list k55 c56, .list k57 c58], .one (.bool r59), .tup [iD (Int.ofNat 0)], .tup [iD (Int.ofNat 0)], .agg [.list k60 c61, .list k62 c63], .tup [iD (Int.ofNat 0), .list k64 c65, .list k66 c67], .one (.bool r68)] [c_nn b5_, c_nn b10_, c_nn b10_, c_nn b10_, c_nn b10_, c_nn b10_, c_bn b15_, c_bn b15_, c_bn b15_, c_bn b15_, c_nn bq5_, c_bn bq20_, c_bn bq20_, c_bn bq20_, c_b bq21_, c_b bq21_, c_bn bq20_, c_b bq21_, c_bn bq20_, c_bn bq25_, c_en bq21_, c_bn bq40_, c_bn bq40_, c_bn bq40_, c_bn bq40_, c_bn bq40_, c_bn bq40_, c_bn bq43_, c_bn bq43_, c_bn bq43_, c_bn bq43_, c_bn bq43_, c_bn bq43_, c_nn bq50_, c_q bq65_] [k_c f1_, k_c f6_, k_c f11_, k_c fq1_, k_c fq6_, k_c fq8_, k_c fq10_, k_c fq12_, k_c fq14_, k_c fq16_, k_c fq26_, k_c fq28_, k_c fq30_, k_c fq32_, k_c fq34_, k_c fq36_, k_c fq44_, k_c fq46_, k_l kq55_ (bT 1 []) [.tup [iD (Int.ofNat 0)], .tup [iD (Int.ofNat 0)], .agg [.list k60 c61, .list k62 c63], .tup [iD (Int.ofNat 0), .list k64 c65, .list k66 c67], .one (.bool r68)] [.tup [iD (Int.ofNat 0)], .agg [.list k60 c61, .list k62 c63], .tup [iD (Int.ofNat 0), .list k64 c65, .list k66 c67], .one (.bool r68)], k_l kq62_ (bT 1 []) [.tup [iD (Int.ofNat 0)], .agg [.list k60 c61, .list k62 c63], .tup [iD (Int.ofNat 0), .list k64 c65, .list k66 c67], .one (.bool r68)] [.agg [.list k60 c61, .list k62 c63], .tup [iD (Int.ofNat 0), .list k64 c65, .list k66 c67], .one (.bool r68)], k_c fq67_, k_l kq73_ [] [.tup [iD (Int.ofNat 0), .list k64 c65, .list k66 c67], .one (.bool r68)] [.one (.bool r68)], k_c fq76_] (by kernel_rfl)
          have hq78_ := (if_neg jq71_).symm.trans hq70_
          clear hq70_
          by_cases jq79_ : j = 1
          · have hq82_ := (if_pos jq79_).symm.trans hq78_
            clear hq78_
            subst jq79_
            obtain ⟨⟨l69, k70, c71, k72, c73⟩, eq80_, hq83_⟩ := pullD_elim hq82_
            clear hq82_
            obtain rfl := tup_inj eq80_
            have kq81_ := law5_L32_in1 ky cy er ka ca kb cb src r0 r1 r2 r3 k4 c5 r6 k7 c8 k9 c10 r11 r12 k13 c14 r15 k16 c17 k18 c19 k20 c21 k22 c23 k24 c25 r26 k27 c28 r29 k30 c31 k32 c33 k34 c35 k36 c37 k38 c39 r40 k41 c42 r43 k44 c45 k46 c47 k48 c49 k50 c51 k52 c53 r54 k55 c56 k57 c58 r59 k60 c61 k62 c63 eq69_
            obtain rfl := Option.some.inj hq83_
            exact con_pc (op := true) (I := [5]) (sp := law5_sp) 3000 (bF 14 (bT 2 (bF 1 (bT 1 (bF 16 (bT 1 [])))))) [.one (.bool r0), .one (.bool r1), iD r2, .one (.bool r3), .agg [.list k4 c5, .one (.bool r6)], .agg [.list k7 c8, .list k9 c10], .tup [iD r11, iD r12], .agg [.list k13 c14, .one (.bool r15)], .agg [.list k16 c17, .list k18 c19], .tup [.agg [.list k20 c21, .list k22 c23], .list k24 c25, iD r26], .agg [.list k27 c28, .one (.bool r29)], .agg [.list k30 c31, .list k32 c33], .tup [.agg [.list k34 c35, .list k36 c37], .list k38 c39, iD r40], .agg [.list k41 c42, .one (.bool r43)], .agg [.list k44 c45, .list k46 c47], .tup [.agg [.list k48 c49, .list k50 c51], .list k52 c53, iD r54], .agg [.list k55 c56, .list k57 c58], .one (.bool r59), .tup [iD (Int.ofNat 0)], .tup [iD (Int.ofNat 0)], .agg [.list k60 c61, .list k62 c63], .tup [iD (Int.ofNat 1), .one (.bool l69), .list k70 c71, .list k72 c73]] [c_nn b5_, c_nn b10_, c_nn b10_, c_nn b10_, c_nn b10_, c_nn b10_, c_bn b15_, c_bn b15_, c_bn b15_, c_bn b15_, c_nn bq5_, c_bn bq20_, c_bn bq20_, c_bn bq20_, c_b bq21_, c_b bq21_, c_bn bq20_, c_b bq21_, c_bn bq20_, c_bn bq25_, c_en bq21_, c_bn bq40_, c_bn bq40_, c_bn bq40_, c_bn bq40_, c_bn bq40_, c_bn bq40_, c_bn bq43_, c_bn bq43_, c_bn bq43_, c_bn bq43_, c_bn bq43_, c_bn bq43_, c_nn bq50_, c_q bq65_] [k_c f1_, k_c f6_, k_c f11_, k_c fq1_, k_c fq6_, k_c fq8_, k_c fq10_, k_c fq12_, k_c fq14_, k_c fq16_, k_c fq26_, k_c fq28_, k_c fq30_, k_c fq32_, k_c fq34_, k_c fq36_, k_c fq44_, k_c fq46_, k_l kq55_ (bT 1 []) [.tup [iD (Int.ofNat 0)], .tup [iD (Int.ofNat 0)], .agg [.list k60 c61, .list k62 c63], .tup [iD (Int.ofNat 1), .one (.bool l69), .list k70 c71, .list k72 c73]] [.tup [iD (Int.ofNat 0)], .agg [.list k60 c61, .list k62 c63], .tup [iD (Int.ofNat 1), .one (.bool l69), .list k70 c71, .list k72 c73]], k_l kq62_ (bT 1 []) [.tup [iD (Int.ofNat 0)], .agg [.list k60 c61, .list k62 c63], .tup [iD (Int.ofNat 1), .one (.bool l69), .list k70 c71, .list k72 c73]] [.agg [.list k60 c61, .list k62 c63], .tup [iD (Int.ofNat 1), .one (.bool l69), .list k70 c71, .list k72 c73]], k_c fq67_, k_l kq81_ [] [.tup [iD (Int.ofNat 1), .one (.bool l69), .list k70 c71, .list k72 c73]] []] (by kernel_rfl)
          have hq84_ := (if_neg jq79_).symm.trans hq78_
          clear hq78_
          cases hq84_
        have hq66_ := (if_neg bq65_).symm.trans hq64_
        have bq85_ : (er) = false := by first | exact bq65_ | simpa using bq65_
        obtain ⟨⟨k74, c75, k76, c77⟩, fq86_, hq87_⟩ := pullD_elim hq66_
        replace fq86_ := m_11_ok fq86_
        obtain ⟨j, ds, eq88_, hq89_⟩ := bindL_elim hq87_
        by_cases jq90_ : j = 0
        · have hq93_ := (if_pos jq90_).symm.trans hq89_
          clear hq89_
          subst jq90_
          obtain ⟨⟨k78, c79, k80, c81⟩, eq91_, hq94_⟩ := pullD_elim hq93_
          clear hq93_
          obtain rfl := tup_inj eq91_
          have kq92_ := law5_L32_3_in0 ky cy er ka ca kb cb src r0 r1 r2 r3 k4 c5 r6 k7 c8 k9 c10 r11 r12 k13 c14 r15 k16 c17 k18 c19 k20 c21 k22 c23 k24 c25 r26 k27 c28 r29 k30 c31 k32 c33 k34 c35 k36 c37 k38 c39 r40 k41 c42 r43 k44 c45 k46 c47 k48 c49 k50 c51 k52 c53 r54 k55 c56 k57 c58 r59 k74 c75 k76 c77 eq88_
          obtain ⟨r82, fq95_, hq96_⟩ := pullD_elim hq94_
          replace fq95_ := m_15_ok fq95_
          obtain rfl := Option.some.inj hq96_
          exact con_pc (op := true) (I := [5]) (sp := law5_sp) 3000 (bF 14 (bT 2 (bF 1 (bT 1 (bF 17 []))))) [.one (.bool r0), .one (.bool r1), iD r2, .one (.bool r3), .agg [.list k4 c5, .one (.bool r6)], .agg [.list k7 c8, .list k9 c10], .tup [iD r11, iD r12], .agg [.list k13 c14, .one (.bool r15)], .agg [.list k16 c17, .list k18 c19], .tup [.agg [.list k20 c21, .list k22 c23], .list k24 c25, iD r26], .agg [.list k27 c28, .one (.bool r29)], .agg [.list k30 c31, .list k32 c33], .tup [.agg [.list k34 c35, .list k36 c37], .list k38 c39, iD r40], .agg [.list k41 c42, .one (.bool r43)], .agg [.list k44 c45, .list k46 c47], .tup [.agg [.list k48 c49, .list k50 c51], .list k52 c53, iD r54], .agg [.list k55 c56, .list k57 c58], .one (.bool r59), .tup [iD (Int.ofNat 0)], .tup [iD (Int.ofNat 0)], .agg [.list k74 c75, .list k76 c77], .tup [iD (Int.ofNat 0), .list k78 c79, .list k80 c81], .one (.bool r82)] [c_nn b5_, c_nn b10_, c_nn b10_, c_nn b10_, c_nn b10_, c_nn b10_, c_bn b15_, c_bn b15_, c_bn b15_, c_bn b15_, c_nn bq5_, c_bn bq20_, c_bn bq20_, c_bn bq20_, c_b bq21_, c_b bq21_, c_bn bq20_, c_b bq21_, c_bn bq20_, c_bn bq25_, c_en bq21_, c_bn bq40_, c_bn bq40_, c_bn bq40_, c_bn bq40_, c_bn bq40_, c_bn bq40_, c_bn bq43_, c_bn bq43_, c_bn bq43_, c_bn bq43_, c_bn bq43_, c_bn bq43_, c_nn bq50_, c_q bq85_] [k_c f1_, k_c f6_, k_c f11_, k_c fq1_, k_c fq6_, k_c fq8_, k_c fq10_, k_c fq12_, k_c fq14_, k_c fq16_, k_c fq26_, k_c fq28_, k_c fq30_, k_c fq32_, k_c fq34_, k_c fq36_, k_c fq44_, k_c fq46_, k_l kq55_ (bF 1 []) [.tup [iD (Int.ofNat 0)], .tup [iD (Int.ofNat 0)], .agg [.list k74 c75, .list k76 c77], .tup [iD (Int.ofNat 0), .list k78 c79, .list k80 c81], .one (.bool r82)] [.tup [iD (Int.ofNat 0)], .agg [.list k74 c75, .list k76 c77], .tup [iD (Int.ofNat 0), .list k78 c79, .list k80 c81], .one (.bool r82)], k_l kq62_ (bF 1 []) [.tup [iD (Int.ofNat 0)], .agg [.list k74 c75, .list k76 c77], .tup [iD (Int.ofNat 0), .list k78 c79, .list k80 c81], .one (.bool r82)] [.agg [.list k74 c75, .list k76 c77], .tup [iD (Int.ofNat 0), .list k78 c79, .list k80 c81], .one (.bool r82)], k_c fq86_, k_l kq92_ [] [.tup [iD (Int.ofNat 0), .list k78 c79, .list k80 c81], .one (.bool r82)] [.one (.bool r82)], k_c fq95_] (by kernel_rfl)
        have hq97_ := (if_neg jq90_).symm.trans hq89_
        clear hq89_
        by_cases jq98_ : j = 1
        · have hq101_ := (if_pos jq98_).symm.trans hq97_
          clear hq97_
          subst jq98_
          obtain ⟨⟨l83, k84, c85, k86, c87⟩, eq99_, hq102_⟩ := pullD_elim hq101_
          clear hq101_
          obtain rfl := tup_inj eq99_
          have kq100_ := law5_L32_3_in1 ky cy er ka ca kb cb src r0 r1 r2 r3 k4 c5 r6 k7 c8 k9 c10 r11 r12 k13 c14 r15 k16 c17 k18 c19 k20 c21 k22 c23 k24 c25 r26 k27 c28 r29 k30 c31 k32 c33 k34 c35 k36 c37 k38 c39 r40 k41 c42 r43 k44 c45 k46 c47 k48 c49 k50 c51 k52 c53 r54 k55 c56 k57 c58 r59 k74 c75 k76 c77 eq88_
          obtain rfl := Option.some.inj hq102_
          exact con_pc (op := true) (I := [5]) (sp := law5_sp) 3000 (bF 14 (bT 2 (bF 1 (bT 1 (bF 17 []))))) [.one (.bool r0), .one (.bool r1), iD r2, .one (.bool r3), .agg [.list k4 c5, .one (.bool r6)], .agg [.list k7 c8, .list k9 c10], .tup [iD r11, iD r12], .agg [.list k13 c14, .one (.bool r15)], .agg [.list k16 c17, .list k18 c19], .tup [.agg [.list k20 c21, .list k22 c23], .list k24 c25, iD r26], .agg [.list k27 c28, .one (.bool r29)], .agg [.list k30 c31, .list k32 c33], .tup [.agg [.list k34 c35, .list k36 c37], .list k38 c39, iD r40], .agg [.list k41 c42, .one (.bool r43)], .agg [.list k44 c45, .list k46 c47], .tup [.agg [.list k48 c49, .list k50 c51], .list k52 c53, iD r54], .agg [.list k55 c56, .list k57 c58], .one (.bool r59), .tup [iD (Int.ofNat 0)], .tup [iD (Int.ofNat 0)], .agg [.list k74 c75, .list k76 c77], .tup [iD (Int.ofNat 1), .one (.bool l83), .list k84 c85, .list k86 c87]] [c_nn b5_, c_nn b10_, c_nn b10_, c_nn b10_, c_nn b10_, c_nn b10_, c_bn b15_, c_bn b15_, c_bn b15_, c_bn b15_, c_nn bq5_, c_bn bq20_, c_bn bq20_, c_bn bq20_, c_b bq21_, c_b bq21_, c_bn bq20_, c_b bq21_, c_bn bq20_, c_bn bq25_, c_en bq21_, c_bn bq40_, c_bn bq40_, c_bn bq40_, c_bn bq40_, c_bn bq40_, c_bn bq40_, c_bn bq43_, c_bn bq43_, c_bn bq43_, c_bn bq43_, c_bn bq43_, c_bn bq43_, c_nn bq50_, c_q bq85_] [k_c f1_, k_c f6_, k_c f11_, k_c fq1_, k_c fq6_, k_c fq8_, k_c fq10_, k_c fq12_, k_c fq14_, k_c fq16_, k_c fq26_, k_c fq28_, k_c fq30_, k_c fq32_, k_c fq34_, k_c fq36_, k_c fq44_, k_c fq46_, k_l kq55_ (bF 1 []) [.tup [iD (Int.ofNat 0)], .tup [iD (Int.ofNat 0)], .agg [.list k74 c75, .list k76 c77], .tup [iD (Int.ofNat 1), .one (.bool l83), .list k84 c85, .list k86 c87]] [.tup [iD (Int.ofNat 0)], .agg [.list k74 c75, .list k76 c77], .tup [iD (Int.ofNat 1), .one (.bool l83), .list k84 c85, .list k86 c87]], k_l kq62_ (bF 1 []) [.tup [iD (Int.ofNat 0)], .agg [.list k74 c75, .list k76 c77], .tup [iD (Int.ofNat 1), .one (.bool l83), .list k84 c85, .list k86 c87]] [.agg [.list k74 c75, .list k76 c77], .tup [iD (Int.ofNat 1), .one (.bool l83), .list k84 c85, .list k86 c87]], k_c fq86_, k_l kq100_ [] [.tup [iD (Int.ofNat 1), .one (.bool l83), .list k84 c85, .list k86 c87]] []] (by kernel_rfl)
        have hq103_ := (if_neg jq98_).symm.trans hq97_
        clear hq97_
        cases hq103_
      have hq104_ := (if_neg jq60_).symm.trans hq59_
      clear hq59_
      by_cases jq105_ : j = 1
      · have hq108_ := (if_pos jq105_).symm.trans hq104_
        clear hq104_
        subst jq105_
        obtain ⟨l88, eq106_, hq109_⟩ := pullD_elim hq108_
        clear hq108_
        obtain rfl := tup_inj eq106_
        have kq107_ := law5_L23_in1 ky cy er ka ca kb cb src r0 r1 r2 r3 k4 c5 r6 k7 c8 k9 c10 r11 r12 k13 c14 r15 k16 c17 k18 c19 k20 c21 k22 c23 k24 c25 r26 k27 c28 r29 k30 c31 k32 c33 k34 c35 k36 c37 k38 c39 r40 k41 c42 r43 k44 c45 k46 c47 k48 c49 k50 c51 k52 c53 r54 k55 c56 k57 c58 r59 eq58_
        obtain rfl := Option.some.inj hq109_
        exact con_pc (op := true) (I := [5]) (sp := law5_sp) 3000 (bF 14 (bT 2 (bF 1 (bT 1 (bF 16 []))))) [.one (.bool r0), .one (.bool r1), iD r2, .one (.bool r3), .agg [.list k4 c5, .one (.bool r6)], .agg [.list k7 c8, .list k9 c10], .tup [iD r11, iD r12], .agg [.list k13 c14, .one (.bool r15)], .agg [.list k16 c17, .list k18 c19], .tup [.agg [.list k20 c21, .list k22 c23], .list k24 c25, iD r26], .agg [.list k27 c28, .one (.bool r29)], .agg [.list k30 c31, .list k32 c33], .tup [.agg [.list k34 c35, .list k36 c37], .list k38 c39, iD r40], .agg [.list k41 c42, .one (.bool r43)], .agg [.list k44 c45, .list k46 c47], .tup [.agg [.list k48 c49, .list k50 c51], .list k52 c53, iD r54], .agg [.list k55 c56, .list k57 c58], .one (.bool r59), .tup [iD (Int.ofNat 0)], .tup [iD (Int.ofNat 1), .one (.bool l88)]] [c_nn b5_, c_nn b10_, c_nn b10_, c_nn b10_, c_nn b10_, c_nn b10_, c_bn b15_, c_bn b15_, c_bn b15_, c_bn b15_, c_nn bq5_, c_bn bq20_, c_bn bq20_, c_bn bq20_, c_b bq21_, c_b bq21_, c_bn bq20_, c_b bq21_, c_bn bq20_, c_bn bq25_, c_en bq21_, c_bn bq40_, c_bn bq40_, c_bn bq40_, c_bn bq40_, c_bn bq40_, c_bn bq40_, c_bn bq43_, c_bn bq43_, c_bn bq43_, c_bn bq43_, c_bn bq43_, c_bn bq43_, c_nn bq50_] [k_c f1_, k_c f6_, k_c f11_, k_c fq1_, k_c fq6_, k_c fq8_, k_c fq10_, k_c fq12_, k_c fq14_, k_c fq16_, k_c fq26_, k_c fq28_, k_c fq30_, k_c fq32_, k_c fq34_, k_c fq36_, k_c fq44_, k_c fq46_, k_l kq55_ [] [.tup [iD (Int.ofNat 0)], .tup [iD (Int.ofNat 1), .one (.bool l88)]] [.tup [iD (Int.ofNat 1), .one (.bool l88)]], k_l kq107_ [] [.tup [iD (Int.ofNat 1), .one (.bool l88)]] []] (by kernel_rfl)
      have hq110_ := (if_neg jq105_).symm.trans hq104_
      clear hq104_
      cases hq110_
    have hq111_ := (if_neg jq53_).symm.trans hq52_
    clear hq52_
    by_cases jq112_ : j = 1
    · have hq115_ := (if_pos jq112_).symm.trans hq111_
      clear hq111_
      subst jq112_
      obtain ⟨l89, eq113_, hq116_⟩ := pullD_elim hq115_
      clear hq115_
      obtain rfl := tup_inj eq113_
      have kq114_ := law5_L18_in1 ky cy er ka ca kb cb src r0 r1 r2 r3 k4 c5 r6 k7 c8 k9 c10 r11 r12 k13 c14 r15 k16 c17 k18 c19 k20 c21 k22 c23 k24 c25 r26 k27 c28 r29 k30 c31 k32 c33 k34 c35 k36 c37 k38 c39 r40 k41 c42 r43 k44 c45 k46 c47 k48 c49 k50 c51 k52 c53 r54 k55 c56 k57 c58 r59 eq51_
      obtain rfl := Option.some.inj hq116_
      exact con_pc (op := true) (I := [5]) (sp := law5_sp) 3000 (bF 14 (bT 2 (bF 1 (bT 1 (bF 16 []))))) [.one (.bool r0), .one (.bool r1), iD r2, .one (.bool r3), .agg [.list k4 c5, .one (.bool r6)], .agg [.list k7 c8, .list k9 c10], .tup [iD r11, iD r12], .agg [.list k13 c14, .one (.bool r15)], .agg [.list k16 c17, .list k18 c19], .tup [.agg [.list k20 c21, .list k22 c23], .list k24 c25, iD r26], .agg [.list k27 c28, .one (.bool r29)], .agg [.list k30 c31, .list k32 c33], .tup [.agg [.list k34 c35, .list k36 c37], .list k38 c39, iD r40], .agg [.list k41 c42, .one (.bool r43)], .agg [.list k44 c45, .list k46 c47], .tup [.agg [.list k48 c49, .list k50 c51], .list k52 c53, iD r54], .agg [.list k55 c56, .list k57 c58], .one (.bool r59), .tup [iD (Int.ofNat 1), .one (.bool l89)]] [c_nn b5_, c_nn b10_, c_nn b10_, c_nn b10_, c_nn b10_, c_nn b10_, c_bn b15_, c_bn b15_, c_bn b15_, c_bn b15_, c_nn bq5_, c_bn bq20_, c_bn bq20_, c_bn bq20_, c_b bq21_, c_b bq21_, c_bn bq20_, c_b bq21_, c_bn bq20_, c_bn bq25_, c_en bq21_, c_bn bq40_, c_bn bq40_, c_bn bq40_, c_bn bq40_, c_bn bq40_, c_bn bq40_, c_bn bq43_, c_bn bq43_, c_bn bq43_, c_bn bq43_, c_bn bq43_, c_bn bq43_, c_nn bq50_] [k_c f1_, k_c f6_, k_c f11_, k_c fq1_, k_c fq6_, k_c fq8_, k_c fq10_, k_c fq12_, k_c fq14_, k_c fq16_, k_c fq26_, k_c fq28_, k_c fq30_, k_c fq32_, k_c fq34_, k_c fq36_, k_c fq44_, k_c fq46_, k_l kq114_ [] [.tup [iD (Int.ofNat 1), .one (.bool l89)]] []] (by kernel_rfl)
    have hq117_ := (if_neg jq112_).symm.trans hq111_
    clear hq111_
    cases hq117_
  have hq22_ := (if_neg bq21_).symm.trans hq19_
  have bq118_ : r26 = (0 : Int) := by first | exact bq21_ | simpa using bq21_
  obtain ⟨⟨k90, c91, r92⟩, fq119_, hq120_⟩ := pullD_elim hq22_
  replace fq119_ := m_9_ok fq119_
  obtain ⟨⟨k93, c94, k95, c96⟩, fq121_, hq122_⟩ := pullD_elim hq120_
  replace fq121_ := m_11_ok fq121_
  obtain ⟨⟨r97, r98⟩, fq123_, hq124_⟩ := pullD_elim hq122_
  replace fq123_ := m_12_ok fq123_
  by_cases bq125_ : r98 ≠ (0 : Int)
  · have hq126_ := (if_pos bq125_).symm.trans hq124_
    obtain rfl := Option.some.inj hq126_
    exact con_pc (op := true) (I := [5]) (sp := law5_sp) 3000 (bF 20 (bT 9 [])) [.one (.bool r0), .one (.bool r1), iD r2, .one (.bool r3), .agg [.list k4 c5, .one (.bool r6)], .agg [.list k7 c8, .list k9 c10], .tup [iD r11, iD r12], .agg [.list k13 c14, .one (.bool r15)], .agg [.list k16 c17, .list k18 c19], .tup [.agg [.list k20 c21, .list k22 c23], .list k24 c25, iD r26], .agg [.list k90 c91, .one (.bool r92)], .agg [.list k93 c94, .list k95 c96], .tup [iD r97, iD r98]] [c_nn b5_, c_nn b10_, c_nn b10_, c_nn b10_, c_nn b10_, c_nn b10_, c_bn b15_, c_bn b15_, c_bn b15_, c_bn b15_, c_nn bq5_, c_bn bq20_, c_bn bq20_, c_bn bq20_, c_bn bq118_, c_bn bq118_, c_bn bq20_, c_bn bq118_, c_bn bq20_, c_F, c_e bq118_, c_b bq125_, c_b bq125_, c_b bq125_, c_T, c_T, c_T, c_T, c_T] [k_c f1_, k_c f6_, k_c f11_, k_c fq1_, k_c fq6_, k_c fq8_, k_c fq10_, k_c fq12_, k_c fq14_, k_c fq16_, k_c fq119_, k_c fq121_, k_c fq123_] (by kernel_rfl)
  have hq126_ := (if_neg bq125_).symm.trans hq124_
  have bq127_ : r98 = (0 : Int) := by first | exact bq125_ | simpa using bq125_
  by_cases bq128_ : r97 < (0 : Int)
  · have hq129_ := (if_pos bq128_).symm.trans hq126_
    obtain rfl := Option.some.inj hq129_
    exact con_pc (op := true) (I := [5]) (sp := law5_sp) 3000 (bF 20 (bT 1 (bF 3 (bT 5 [])))) [.one (.bool r0), .one (.bool r1), iD r2, .one (.bool r3), .agg [.list k4 c5, .one (.bool r6)], .agg [.list k7 c8, .list k9 c10], .tup [iD r11, iD r12], .agg [.list k13 c14, .one (.bool r15)], .agg [.list k16 c17, .list k18 c19], .tup [.agg [.list k20 c21, .list k22 c23], .list k24 c25, iD r26], .agg [.list k90 c91, .one (.bool r92)], .agg [.list k93 c94, .list k95 c96], .tup [iD r97, iD r98]] [c_nn b5_, c_nn b10_, c_nn b10_, c_nn b10_, c_nn b10_, c_nn b10_, c_bn b15_, c_bn b15_, c_bn b15_, c_bn b15_, c_nn bq5_, c_bn bq20_, c_bn bq20_, c_bn bq20_, c_bn bq118_, c_bn bq118_, c_bn bq20_, c_bn bq118_, c_bn bq20_, c_F, c_e bq118_, c_bn bq127_, c_bn bq127_, c_bn bq127_, c_d bq128_, c_d bq128_, c_d bq128_, c_d bq128_, c_T] [k_c f1_, k_c f6_, k_c f11_, k_c fq1_, k_c fq6_, k_c fq8_, k_c fq10_, k_c fq12_, k_c fq14_, k_c fq16_, k_c fq119_, k_c fq121_, k_c fq123_] (by kernel_rfl)
  have hq129_ := (if_neg bq128_).symm.trans hq126_
  by_cases bq130_ : r97 > r11
  · have hq131_ := (if_pos bq130_).symm.trans hq129_
    obtain rfl := Option.some.inj hq131_
    exact con_pc (op := true) (I := [5]) (sp := law5_sp) 3000 (bF 20 (bT 1 (bF 7 (bT 1 [])))) [.one (.bool r0), .one (.bool r1), iD r2, .one (.bool r3), .agg [.list k4 c5, .one (.bool r6)], .agg [.list k7 c8, .list k9 c10], .tup [iD r11, iD r12], .agg [.list k13 c14, .one (.bool r15)], .agg [.list k16 c17, .list k18 c19], .tup [.agg [.list k20 c21, .list k22 c23], .list k24 c25, iD r26], .agg [.list k90 c91, .one (.bool r92)], .agg [.list k93 c94, .list k95 c96], .tup [iD r97, iD r98]] [c_nn b5_, c_nn b10_, c_nn b10_, c_nn b10_, c_nn b10_, c_nn b10_, c_bn b15_, c_bn b15_, c_bn b15_, c_bn b15_, c_nn bq5_, c_bn bq20_, c_bn bq20_, c_bn bq20_, c_bn bq118_, c_bn bq118_, c_bn bq20_, c_bn bq118_, c_bn bq20_, c_F, c_e bq118_, c_bn bq127_, c_bn bq127_, c_bn bq127_, c_n bq128_, c_n bq128_, c_n bq128_, c_n bq128_, c_d bq130_] [k_c f1_, k_c f6_, k_c f11_, k_c fq1_, k_c fq6_, k_c fq8_, k_c fq10_, k_c fq12_, k_c fq14_, k_c fq16_, k_c fq119_, k_c fq121_, k_c fq123_] (by kernel_rfl)
  have hq131_ := (if_neg bq130_).symm.trans hq129_
  obtain ⟨⟨k99, c100, r101⟩, fq132_, hq133_⟩ := pullD_elim hq131_
  replace fq132_ := m_9_ok fq132_
  obtain ⟨⟨k102, c103, k104, c105⟩, fq134_, hq135_⟩ := pullD_elim hq133_
  replace fq134_ := m_11_ok fq134_
  obtain ⟨⟨k106, c107, k108, c109, k110, c111, r112⟩, fq136_, hq137_⟩ := pullD_elim hq135_
  replace fq136_ := m_10_ok fq136_
  obtain ⟨⟨k113, c114, r115⟩, fq138_, hq139_⟩ := pullD_elim hq137_
  replace fq138_ := m_9_ok fq138_
  obtain ⟨⟨k116, c117, k118, c119⟩, fq140_, hq141_⟩ := pullD_elim hq139_
  replace fq140_ := m_25_ok fq140_
  obtain ⟨⟨k120, c121, k122, c123, k124, c125, r126⟩, fq142_, hq143_⟩ := pullD_elim hq141_
  replace fq142_ := m_10_ok fq142_
  by_cases bq144_ : r112 ≠ r126
  · have hq145_ := (if_pos bq144_).symm.trans hq143_
    obtain rfl := Option.some.inj hq145_
    exact con_pc (op := true) (I := [5]) (sp := law5_sp) 3000 (bF 20 (bT 1 (bF 8 (bT 13 [])))) [.one (.bool r0), .one (.bool r1), iD r2, .one (.bool r3), .agg [.list k4 c5, .one (.bool r6)], .agg [.list k7 c8, .list k9 c10], .tup [iD r11, iD r12], .agg [.list k13 c14, .one (.bool r15)], .agg [.list k16 c17, .list k18 c19], .tup [.agg [.list k20 c21, .list k22 c23], .list k24 c25, iD r26], .agg [.list k90 c91, .one (.bool r92)], .agg [.list k93 c94, .list k95 c96], .tup [iD r97, iD r98], .agg [.list k99 c100, .one (.bool r101)], .agg [.list k102 c103, .list k104 c105], .tup [.agg [.list k106 c107, .list k108 c109], .list k110 c111, iD r112], .agg [.list k113 c114, .one (.bool r115)], .agg [.list k116 c117, .list k118 c119], .tup [.agg [.list k120 c121, .list k122 c123], .list k124 c125, iD r126]] [c_nn b5_, c_nn b10_, c_nn b10_, c_nn b10_, c_nn b10_, c_nn b10_, c_bn b15_, c_bn b15_, c_bn b15_, c_bn b15_, c_nn bq5_, c_bn bq20_, c_bn bq20_, c_bn bq20_, c_bn bq118_, c_bn bq118_, c_bn bq20_, c_bn bq118_, c_bn bq20_, c_F, c_e bq118_, c_bn bq127_, c_bn bq127_, c_bn bq127_, c_n bq128_, c_n bq128_, c_n bq128_, c_n bq128_, c_n bq130_, c_b bq144_, c_b bq144_, c_b bq144_, c_b bq144_, c_b bq144_, c_b bq144_, c_T, c_T, c_T, c_T, c_T, c_T, c_T] [k_c f1_, k_c f6_, k_c f11_, k_c fq1_, k_c fq6_, k_c fq8_, k_c fq10_, k_c fq12_, k_c fq14_, k_c fq16_, k_c fq119_, k_c fq121_, k_c fq123_, k_c fq132_, k_c fq134_, k_c fq136_, k_c fq138_, k_c fq140_, k_c fq142_] (by kernel_rfl)
  have hq145_ := (if_neg bq144_).symm.trans hq143_
  have bq146_ : r112 = r126 := by first | exact bq144_ | simpa using bq144_
  by_cases bq147_ : (k110 : Int) ≠ (k124 : Int)
  · have hq148_ := (if_pos bq147_).symm.trans hq145_
    obtain rfl := Option.some.inj hq148_
    exact con_pc (op := true) (I := [5]) (sp := law5_sp) 3000 (bF 20 (bT 1 (bF 14 (bT 7 [])))) [.one (.bool r0), .one (.bool r1), iD r2, .one (.bool r3), .agg [.list k4 c5, .one (.bool r6)], .agg [.list k7 c8, .list k9 c10], .tup [iD r11, iD r12], .agg [.list k13 c14, .one (.bool r15)], .agg [.list k16 c17, .list k18 c19], .tup [.agg [.list k20 c21, .list k22 c23], .list k24 c25, iD r26], .agg [.list k90 c91, .one (.bool r92)], .agg [.list k93 c94, .list k95 c96], .tup [iD r97, iD r98], .agg [.list k99 c100, .one (.bool r101)], .agg [.list k102 c103, .list k104 c105], .tup [.agg [.list k106 c107, .list k108 c109], .list k110 c111, iD r112], .agg [.list k113 c114, .one (.bool r115)], .agg [.list k116 c117, .list k118 c119], .tup [.agg [.list k120 c121, .list k122 c123], .list k124 c125, iD r126]] [c_nn b5_, c_nn b10_, c_nn b10_, c_nn b10_, c_nn b10_, c_nn b10_, c_bn b15_, c_bn b15_, c_bn b15_, c_bn b15_, c_nn bq5_, c_bn bq20_, c_bn bq20_, c_bn bq20_, c_bn bq118_, c_bn bq118_, c_bn bq20_, c_bn bq118_, c_bn bq20_, c_F, c_e bq118_, c_bn bq127_, c_bn bq127_, c_bn bq127_, c_n bq128_, c_n bq128_, c_n bq128_, c_n bq128_, c_n bq130_, c_bn bq146_, c_bn bq146_, c_bn bq146_, c_bn bq146_, c_bn bq146_, c_bn bq146_, c_b bq147_, c_b bq147_, c_b bq147_, c_b bq147_, c_b bq147_, c_b bq147_, c_T] [k_c f1_, k_c f6_, k_c f11_, k_c fq1_, k_c fq6_, k_c fq8_, k_c fq10_, k_c fq12_, k_c fq14_, k_c fq16_, k_c fq119_, k_c fq121_, k_c fq123_, k_c fq132_, k_c fq134_, k_c fq136_, k_c fq138_, k_c fq140_, k_c fq142_] (by kernel_rfl)
  have hq148_ := (if_neg bq147_).symm.trans hq145_
  have bq149_ : (k110 : Int) = (k124 : Int) := by first | exact bq147_ | simpa using bq147_
  obtain ⟨⟨k127, c128, k129, c130⟩, fq150_, hq151_⟩ := pullD_elim hq148_
  replace fq150_ := m_25_ok fq150_
  obtain ⟨r131, fq152_, hq153_⟩ := pullD_elim hq151_
  replace fq152_ := m_15_ok fq152_
  by_cases bq154_ : r131 = false
  · have hq155_ := (if_pos bq154_).symm.trans hq153_
    obtain rfl := Option.some.inj hq155_
    exact con_pc (op := true) (I := [5]) (sp := law5_sp) 3000 (bF 20 (bT 1 (bF 20 (bT 1 [])))) [.one (.bool r0), .one (.bool r1), iD r2, .one (.bool r3), .agg [.list k4 c5, .one (.bool r6)], .agg [.list k7 c8, .list k9 c10], .tup [iD r11, iD r12], .agg [.list k13 c14, .one (.bool r15)], .agg [.list k16 c17, .list k18 c19], .tup [.agg [.list k20 c21, .list k22 c23], .list k24 c25, iD r26], .agg [.list k90 c91, .one (.bool r92)], .agg [.list k93 c94, .list k95 c96], .tup [iD r97, iD r98], .agg [.list k99 c100, .one (.bool r101)], .agg [.list k102 c103, .list k104 c105], .tup [.agg [.list k106 c107, .list k108 c109], .list k110 c111, iD r112], .agg [.list k113 c114, .one (.bool r115)], .agg [.list k116 c117, .list k118 c119], .tup [.agg [.list k120 c121, .list k122 c123], .list k124 c125, iD r126], .agg [.list k127 c128, .list k129 c130], .one (.bool r131)] [c_nn b5_, c_nn b10_, c_nn b10_, c_nn b10_, c_nn b10_, c_nn b10_, c_bn b15_, c_bn b15_, c_bn b15_, c_bn b15_, c_nn bq5_, c_bn bq20_, c_bn bq20_, c_bn bq20_, c_bn bq118_, c_bn bq118_, c_bn bq20_, c_bn bq118_, c_bn bq20_, c_F, c_e bq118_, c_bn bq127_, c_bn bq127_, c_bn bq127_, c_n bq128_, c_n bq128_, c_n bq128_, c_n bq128_, c_n bq130_, c_bn bq146_, c_bn bq146_, c_bn bq146_, c_bn bq146_, c_bn bq146_, c_bn bq146_, c_bn bq149_, c_bn bq149_, c_bn bq149_, c_bn bq149_, c_bn bq149_, c_bn bq149_, c_no bq154_] [k_c f1_, k_c f6_, k_c f11_, k_c fq1_, k_c fq6_, k_c fq8_, k_c fq10_, k_c fq12_, k_c fq14_, k_c fq16_, k_c fq119_, k_c fq121_, k_c fq123_, k_c fq132_, k_c fq134_, k_c fq136_, k_c fq138_, k_c fq140_, k_c fq142_, k_c fq150_, k_c fq152_] (by kernel_rfl)
  have hq155_ := (if_neg bq154_).symm.trans hq153_
  have bq156_ : r131 = true := by first | exact bq154_ | simpa using bq154_
  obtain ⟨j, ds, eq157_, hq158_⟩ := bindL_elim hq155_
  by_cases jq159_ : j = 0
  · have hq162_ := (if_pos jq159_).symm.trans hq158_
    clear hq158_
    subst jq159_
    obtain ⟨⟨⟩, eq160_, hq163_⟩ := pullD_elim hq162_
    clear hq162_
    obtain rfl := tup_inj eq160_
    have kq161_ := law5_L18_4_in0 ky cy er ka ca kb cb src r0 r1 r2 r3 k4 c5 r6 k7 c8 k9 c10 r11 r12 k13 c14 r15 k16 c17 k18 c19 k20 c21 k22 c23 k24 c25 r26 k90 c91 r92 k93 c94 k95 c96 r97 r98 k99 c100 r101 k102 c103 k104 c105 k106 c107 k108 c109 k110 c111 r112 k113 c114 r115 k116 c117 k118 c119 k120 c121 k122 c123 k124 c125 r126 k127 c128 k129 c130 r131 eq157_
    obtain ⟨j, ds, eq164_, hq165_⟩ := bindL_elim hq163_
    by_cases jq166_ : j = 0
    · have hq169_ := (if_pos jq166_).symm.trans hq165_
      clear hq165_
      subst jq166_
      obtain ⟨⟨⟩, eq167_, hq170_⟩ := pullD_elim hq169_
      clear hq169_
      obtain rfl := tup_inj eq167_
      have kq168_ := law5_L23_5_in0 ky cy er ka ca kb cb src r0 r1 r2 r3 k4 c5 r6 k7 c8 k9 c10 r11 r12 k13 c14 r15 k16 c17 k18 c19 k20 c21 k22 c23 k24 c25 r26 k90 c91 r92 k93 c94 k95 c96 r97 r98 k99 c100 r101 k102 c103 k104 c105 k106 c107 k108 c109 k110 c111 r112 k113 c114 r115 k116 c117 k118 c119 k120 c121 k122 c123 k124 c125 r126 k127 c128 k129 c130 r131 eq164_
      by_cases bq171_ : (er) = true
      · have hq172_ := (if_pos bq171_).symm.trans hq170_
        obtain ⟨⟨k132, c133, k134, c135⟩, fq173_, hq174_⟩ := pullD_elim hq172_
        replace fq173_ := m_11_ok fq173_
        obtain ⟨j, ds, eq175_, hq176_⟩ := bindL_elim hq174_
        by_cases jq177_ : j = 0
        · have hq180_ := (if_pos jq177_).symm.trans hq176_
          clear hq176_
          subst jq177_
          obtain ⟨⟨k136, c137, k138, c139⟩, eq178_, hq181_⟩ := pullD_elim hq180_
          clear hq180_
          obtain rfl := tup_inj eq178_
          have kq179_ := law5_L32_6_in0 ky cy er ka ca kb cb src r0 r1 r2 r3 k4 c5 r6 k7 c8 k9 c10 r11 r12 k13 c14 r15 k16 c17 k18 c19 k20 c21 k22 c23 k24 c25 r26 k90 c91 r92 k93 c94 k95 c96 r97 r98 k99 c100 r101 k102 c103 k104 c105 k106 c107 k108 c109 k110 c111 r112 k113 c114 r115 k116 c117 k118 c119 k120 c121 k122 c123 k124 c125 r126 k127 c128 k129 c130 r131 k132 c133 k134 c135 eq175_
          obtain ⟨r140, fq182_, hq183_⟩ := pullD_elim hq181_
          replace fq182_ := m_15_ok fq182_
          obtain rfl := Option.some.inj hq183_
          exact con_pc (op := true) (I := [5]) (sp := law5_sp) 3000 (bF 20 (bT 1 (bF 21 (bT 1 [])))) [.one (.bool r0), .one (.bool r1), iD r2, .one (.bool r3), .agg [.list k4 c5, .one (.bool r6)], .agg [.list k7 c8, .list k9 c10], .tup [iD r11, iD r12], .agg [.list k13 c14, .one (.bool r15)], .agg [.list k16 c17, .list k18 c19], .tup [.agg [.list k20 c21, .list k22 c23], .list k24 c25, iD r26], .agg [.list k90 c91, .one (.bool r92)], .agg [.list k93 c94, .list k95 c96], .tup [iD r97, iD r98], .agg [.list k99 c100, .one (.bool r101)], .agg [.list k102 c103, .list k104 c105], .tup [.agg [.list k106 c107, .list k108 c109], .list k110 c111, iD r112], .agg [.list k113 c114, .one (.bool r115)], .agg [.list k116 c117, .list k118 c119], .tup [.agg [.list k120 c121, .list k122 c123], .list k124 c125, iD r126], .agg [.list k127 c128, .list k129 c130], .one (.bool r131), .tup [iD (Int.ofNat 0)], .tup [iD (Int.ofNat 0)], .agg [.list k132 c133, .list k134 c135], .tup [iD (Int.ofNat 0), .list k136 c137, .list k138 c139], .one (.bool r140)] [c_nn b5_, c_nn b10_, c_nn b10_, c_nn b10_, c_nn b10_, c_nn b10_, c_bn b15_, c_bn b15_, c_bn b15_, c_bn b15_, c_nn bq5_, c_bn bq20_, c_bn bq20_, c_bn bq20_, c_bn bq118_, c_bn bq118_, c_bn bq20_, c_bn bq118_, c_bn bq20_, c_F, c_e bq118_, c_bn bq127_, c_bn bq127_, c_bn bq127_, c_n bq128_, c_n bq128_, c_n bq128_, c_n bq128_, c_n bq130_, c_bn bq146_, c_bn bq146_, c_bn bq146_, c_bn bq146_, c_bn bq146_, c_bn bq146_, c_bn bq149_, c_bn bq149_, c_bn bq149_, c_bn bq149_, c_bn bq149_, c_bn bq149_, c_nn bq156_, c_q bq171_] [k_c f1_, k_c f6_, k_c f11_, k_c fq1_, k_c fq6_, k_c fq8_, k_c fq10_, k_c fq12_, k_c fq14_, k_c fq16_, k_c fq119_, k_c fq121_, k_c fq123_, k_c fq132_, k_c fq134_, k_c fq136_, k_c fq138_, k_c fq140_, k_c fq142_, k_c fq150_, k_c fq152_, k_l kq161_ (bT 1 []) [.tup [iD (Int.ofNat 0)], .tup [iD (Int.ofNat 0)], .agg [.list k132 c133, .list k134 c135], .tup [iD (Int.ofNat 0), .list k136 c137, .list k138 c139], .one (.bool r140)] [.tup [iD (Int.ofNat 0)], .agg [.list k132 c133, .list k134 c135], .tup [iD (Int.ofNat 0), .list k136 c137, .list k138 c139], .one (.bool r140)], k_l kq168_ (bT 1 []) [.tup [iD (Int.ofNat 0)], .agg [.list k132 c133, .list k134 c135], .tup [iD (Int.ofNat 0), .list k136 c137, .list k138 c139], .one (.bool r140)] [.agg [.list k132 c133, .list k134 c135], .tup [iD (Int.ofNat 0), .list k136 c137, .list k138 c139], .one (.bool r140)], k_c fq173_, k_l kq179_ [] [.tup [iD (Int.ofNat 0), .list k136 c137, .list k138 c139], .one (.bool r140)] [.one (.bool r140)], k_c fq182_] (by kernel_rfl)
        have hq184_ := (if_neg jq177_).symm.trans hq176_
        clear hq176_
        by_cases jq185_ : j = 1
        · have hq188_ := (if_pos jq185_).symm.trans hq184_
          clear hq184_
          subst jq185_
          obtain ⟨⟨l141, k142, c143, k144, c145⟩, eq186_, hq189_⟩ := pullD_elim hq188_
          clear hq188_
          obtain rfl := tup_inj eq186_
          have kq187_ := law5_L32_6_in1 ky cy er ka ca kb cb src r0 r1 r2 r3 k4 c5 r6 k7 c8 k9 c10 r11 r12 k13 c14 r15 k16 c17 k18 c19 k20 c21 k22 c23 k24 c25 r26 k90 c91 r92 k93 c94 k95 c96 r97 r98 k99 c100 r101 k102 c103 k104 c105 k106 c107 k108 c109 k110 c111 r112 k113 c114 r115 k116 c117 k118 c119 k120 c121 k122 c123 k124 c125 r126 k127 c128 k129 c130 r131 k132 c133 k134 c135 eq175_
          obtain rfl := Option.some.inj hq189_
          exact con_pc (op := true) (I := [5]) (sp := law5_sp) 3000 (bF 20 (bT 1 (bF 21 (bT 1 [])))) [.one (.bool r0), .one (.bool r1), iD r2, .one (.bool r3), .agg [.list k4 c5, .one (.bool r6)], .agg [.list k7 c8, .list k9 c10], .tup [iD r11, iD r12], .agg [.list k13 c14, .one (.bool r15)], .agg [.list k16 c17, .list k18 c19], .tup [.agg [.list k20 c21, .list k22 c23], .list k24 c25, iD r26], .agg [.list k90 c91, .one (.bool r92)], .agg [.list k93 c94, .list k95 c96], .tup [iD r97, iD r98], .agg [.list k99 c100, .one (.bool r101)], .agg [.list k102 c103, .list k104 c105], .tup [.agg [.list k106 c107, .list k108 c109], .list k110 c111, iD r112], .agg [.list k113 c114, .one (.bool r115)], .agg [.list k116 c117, .list k118 c119], .tup [.agg [.list k120 c121, .list k122 c123], .list k124 c125, iD r126], .agg [.list k127 c128, .list k129 c130], .one (.bool r131), .tup [iD (Int.ofNat 0)], .tup [iD (Int.ofNat 0)], .agg [.list k132 c133, .list k134 c135], .tup [iD (Int.ofNat 1), .one (.bool l141), .list k142 c143, .list k144 c145]] [c_nn b5_, c_nn b10_, c_nn b10_, c_nn b10_, c_nn b10_, c_nn b10_, c_bn b15_, c_bn b15_, c_bn b15_, c_bn b15_, c_nn bq5_, c_bn bq20_, c_bn bq20_, c_bn bq20_, c_bn bq118_, c_bn bq118_, c_bn bq20_, c_bn bq118_, c_bn bq20_, c_F, c_e bq118_, c_bn bq127_, c_bn bq127_, c_bn bq127_, c_n bq128_, c_n bq128_, c_n bq128_, c_n bq128_, c_n bq130_, c_bn bq146_, c_bn bq146_, c_bn bq146_, c_bn bq146_, c_bn bq146_, c_bn bq146_, c_bn bq149_, c_bn bq149_, c_bn bq149_, c_bn bq149_, c_bn bq149_, c_bn bq149_, c_nn bq156_, c_q bq171_] [k_c f1_, k_c f6_, k_c f11_, k_c fq1_, k_c fq6_, k_c fq8_, k_c fq10_, k_c fq12_, k_c fq14_, k_c fq16_, k_c fq119_, k_c fq121_, k_c fq123_, k_c fq132_, k_c fq134_, k_c fq136_, k_c fq138_, k_c fq140_, k_c fq142_, k_c fq150_, k_c fq152_, k_l kq161_ (bT 1 []) [.tup [iD (Int.ofNat 0)], .tup [iD (Int.ofNat 0)], .agg [.list k132 c133, .list k134 c135], .tup [iD (Int.ofNat 1), .one (.bool l141), .list k142 c143, .list k144 c145]] [.tup [iD (Int.ofNat 0)], .agg [.list k132 c133, .list k134 c135], .tup [iD (Int.ofNat 1), .one (.bool l141), .list k142 c143, .list k144 c145]], k_l kq168_ (bT 1 []) [.tup [iD (Int.ofNat 0)], .agg [.list k132 c133, .list k134 c135], .tup [iD (Int.ofNat 1), .one (.bool l141), .list k142 c143, .list k144 c145]] [.agg [.list k132 c133, .list k134 c135], .tup [iD (Int.ofNat 1), .one (.bool l141), .list k142 c143, .list k144 c145]], k_c fq173_, k_l kq187_ [] [.tup [iD (Int.ofNat 1), .one (.bool l141), .list k142 c143, .list k144 c145]] []] (by kernel_rfl)
        have hq190_ := (if_neg jq185_).symm.trans hq184_
        clear hq184_
        cases hq190_
      have hq172_ := (if_neg bq171_).symm.trans hq170_
      have bq191_ : (er) = false := by first | exact bq171_ | simpa using bq171_
      obtain ⟨⟨k146, c147, k148, c149⟩, fq192_, hq193_⟩ := pullD_elim hq172_
      replace fq192_ := m_11_ok fq192_
      obtain ⟨j, ds, eq194_, hq195_⟩ := bindL_elim hq193_
      by_cases jq196_ : j = 0
      · have hq199_ := (if_pos jq196_).symm.trans hq195_
        clear hq195_
        subst jq196_
        obtain ⟨⟨k150, c151, k152, c153⟩, eq197_, hq200_⟩ := pullD_elim hq199_
        clear hq199_
        obtain rfl := tup_inj eq197_
        have kq198_ := law5_L32_7_in0 ky cy er ka ca kb cb src r0 r1 r2 r3 k4 c5 r6 k7 c8 k9 c10 r11 r12 k13 c14 r15 k16 c17 k18 c19 k20 c21 k22 c23 k24 c25 r26 k90 c91 r92 k93 c94 k95 c96 r97 r98 k99 c100 r101 k102 c103 k104 c105 k106 c107 k108 c109 k110 c111 r112 k113 c114 r115 k116 c117 k118 c119 k120 c121 k122 c123 k124 c125 r126 k127 c128 k129 c130 r131 k146 c147 k148 c149 eq194_
        obtain ⟨r154, fq201_, hq202_⟩ := pullD_elim hq200_
        replace fq201_ := m_15_ok fq201_
        obtain rfl := Option.some.inj hq202_
        exact con_pc (op := true) (I := [5]) (sp := law5_sp) 3000 (bF 20 (bT 1 (bF 22 []))) [.one (.bool r0), .one (.bool r1), iD r2, .one (.bool r3), .agg [.list k4 c5, .one (.bool r6)], .agg [.list k7 c8, .list k9 c10], .tup [iD r11, iD r12], .agg [.list k13 c14, .one (.bool r15)], .agg [.list k16 c17, .list k18 c19], .tup [.agg [.list k20 c21, .list k22 c23], .list k24 c25, iD r26], .agg [.list k90 c91, .one (.bool r92)], .agg [.list k93 c94, .list k95 c96], .tup [iD r97, iD r98], .agg [.list k99 c100, .one (.bool r101)], .agg [.list k102 c103, .list k104 c105], .tup [.agg [.list k106 c107, .list k108 c109], .list k110 c111, iD r112], .agg [.list k113 c114, .one (.bool r115)], .agg [.list k116 c117, .list k118 c119], .tup [.agg [.list k120 c121, .list k122 c123], .list k124 c125, iD r126], .agg [.list k127 c128, .list k129 c130], .one (.bool r131), .tup [iD (Int.ofNat 0)], .tup [iD (Int.ofNat 0)], .agg [.list k146 c147, .list k148 c149], .tup [iD (Int.ofNat 0), .list k150 c151, .list k152 c153], .one (.bool r154)] [c_nn b5_, c_nn b10_, c_nn b10_, c_nn b10_, c_nn b10_, c_nn b10_, c_bn b15_, c_bn b15_, c_bn b15_, c_bn b15_, c_nn bq5_, c_bn bq20_, c_bn bq20_, c_bn bq20_, c_bn bq118_, c_bn bq118_, c_bn bq20_, c_bn bq118_, c_bn bq20_, c_F, c_e bq118_, c_bn bq127_, c_bn bq127_, c_bn bq127_, c_n bq128_, c_n bq128_, c_n bq128_, c_n bq128_, c_n bq130_, c_bn bq146_, c_bn bq146_, c_bn bq146_, c_bn bq146_, c_bn bq146_, c_bn bq146_, c_bn bq149_, c_bn bq149_, c_bn bq149_, c_bn bq149_, c_bn bq149_, c_bn bq149_, c_nn bq156_, c_q bq191_] [k_c f1_, k_c f6_, k_c f11_, k_c fq1_, k_c fq6_, k_c fq8_, k_c fq10_, k_c fq12_, k_c fq14_, k_c fq16_, k_c fq119_, k_c fq121_, k_c fq123_, k_c fq132_, k_c fq134_, k_c fq136_, k_c fq138_, k_c fq140_, k_c fq142_, k_c fq150_, k_c fq152_, k_l kq161_ (bF 1 []) [.tup [iD (Int.ofNat 0)], .tup [iD (Int.ofNat 0)], .agg [.list k146 c147, .list k148 c149], .tup [iD (Int.ofNat 0), .list k150 c151, .list k152 c153], .one (.bool r154)] [.tup [iD (Int.ofNat 0)], .agg [.list k146 c147, .list k148 c149], .tup [iD (Int.ofNat 0), .list k150 c151, .list k152 c153], .one (.bool r154)], k_l kq168_ (bF 1 []) [.tup [iD (Int.ofNat 0)], .agg [.list k146 c147, .list k148 c149], .tup [iD (Int.ofNat 0), .list k150 c151, .list k152 c153], .one (.bool r154)] [.agg [.list k146 c147, .list k148 c149], .tup [iD (Int.ofNat 0), .list k150 c151, .list k152 c153], .one (.bool r154)], k_c fq192_, k_l kq198_ [] [.tup [iD (Int.ofNat 0), .list k150 c151, .list k152 c153], .one (.bool r154)] [.one (.bool r154)], k_c fq201_] (by kernel_rfl)
      have hq203_ := (if_neg jq196_).symm.trans hq195_
      clear hq195_
      by_cases jq204_ : j = 1
      · have hq207_ := (if_pos jq204_).symm.trans hq203_
        clear hq203_
        subst jq204_
        obtain ⟨⟨l155, k156, c157, k158, c159⟩, eq205_, hq208_⟩ := pullD_elim hq207_
        clear hq207_
        obtain rfl := tup_inj eq205_
        have kq206_ := law5_L32_7_in1 ky cy er ka ca kb cb src r0 r1 r2 r3 k4 c5 r6 k7 c8 k9 c10 r11 r12 k13 c14 r15 k16 c17 k18 c19 k20 c21 k22 c23 k24 c25 r26 k90 c91 r92 k93 c94 k95 c96 r97 r98 k99 c100 r101 k102 c103 k104 c105 k106 c107 k108 c109 k110 c111 r112 k113 c114 r115 k116 c117 k118 c119 k120 c121 k122 c123 k124 c125 r126 k127 c128 k129 c130 r131 k146 c147 k148 c149 eq194_
        obtain rfl := Option.some.inj hq208_
        exact con_pc (op := true) (I := [5]) (sp := law5_sp) 3000 (bF 20 (bT 1 (bF 22 []))) [.one (.bool r0), .one (.bool r1), iD r2, .one (.bool r3), .agg [.list k4 c5, .one (.bool r6)], .agg [.list k7 c8, .list k9 c10], .tup [iD r11, iD r12], .agg [.list k13 c14, .one (.bool r15)], .agg [.list k16 c17, .list k18 c19], .tup [.agg [.list k20 c21, .list k22 c23], .list k24 c25, iD r26], .agg [.list k90 c91, .one (.bool r92)], .agg [.list k93 c94, .list k95 c96], .tup [iD r97, iD r98], .agg [.list k99 c100, .one (.bool r101)], .agg [.list k102 c103, .list k104 c105], .tup [.agg [.list k106 c107, .list k108 c109], .list k110 c111, iD r112], .agg [.list k113 c114, .one (.bool r115)], .agg [.list k116 c117, .list k118 c119], .tup [.agg [.list k120 c121, .list k122 c123], .list k124 c125, iD r126], .agg [.list k127 c128, .list k129 c130], .one (.bool r131), .tup [iD (Int.ofNat 0)], .tup [iD (Int.ofNat 0)], .agg [.list k146 c147, .list k148 c149], .tup [iD (Int.ofNat 1), .one (.bool l155), .list k156 c157, .list k158 c159]] [c_nn b5_, c_nn b10_, c_nn b10_, c_nn b10_, c_nn b10_, c_nn b10_, c_bn b15_, c_bn b15_, c_bn b15_, c_bn b15_, c_nn bq5_, c_bn bq20_, c_bn bq20_, c_bn bq20_, c_bn bq118_, c_bn bq118_, c_bn bq20_, c_bn bq118_, c_bn bq20_, c_F, c_e bq118_, c_bn bq127_, c_bn bq127_, c_bn bq127_, c_n bq128_, c_n bq128_, c_n bq128_, c_n bq128_, c_n bq130_, c_bn bq146_, c_bn bq146_, c_bn bq146_, c_bn bq146_, c_bn bq146_, c_bn bq146_, c_bn bq149_, c_bn bq149_, c_bn bq149_, c_bn bq149_, c_bn bq149_, c_bn bq149_, c_nn bq156_, c_q bq191_] [k_c f1_, k_c f6_, k_c f11_, k_c fq1_, k_c fq6_, k_c fq8_, k_c fq10_, k_c fq12_, k_c fq14_, k_c fq16_, k_c fq119_, k_c fq121_, k_c fq123_, k_c fq132_, k_c fq134_, k_c fq136_, k_c fq138_, k_c fq140_, k_c fq142_, k_c fq150_, k_c fq152_, k_l kq161_ (bF 1 []) [.tup [iD (Int.ofNat 0)], .tup [iD (Int.ofNat 0)], .agg [.list k146 c147, .list k148 c149], .tup [iD (Int.ofNat 1), .one (.bool l155), .list k156 c157, .list k158 c159]] [.tup [iD (Int.ofNat 0)], .agg [.list k146 c147, .list k148 c149], .tup [iD (Int.ofNat 1), .one (.bool l155), .list k156 c157, .list k158 c159]], k_l kq168_ (bF 1 []) [.tup [iD (Int.ofNat 0)], .agg [.list k146 c147, .list k148 c149], .tup [iD (Int.ofNat 1), .one (.bool l155), .list k156 c157, .list k158 c159]] [.agg [.list k146 c147, .list k148 c149], .tup [iD (Int.ofNat 1), .one (.bool l155), .list k156 c157, .list k158 c159]], k_c fq192_, k_l kq206_ [] [.tup [iD (Int.ofNat 1), .one (.bool l155), .list k156 c157, .list k158 c159]] []] (by kernel_rfl)
      have hq209_ := (if_neg jq204_).symm.trans hq203_
      clear hq203_
      cases hq209_
    have hq210_ := (if_neg jq166_).symm.trans hq165_
    clear hq165_
    by_cases jq211_ : j = 1
    · have hq214_ := (if_pos jq211_).symm.trans hq210_
      clear hq210_
      subst jq211_
      obtain ⟨l160, eq212_, hq215_⟩ := pullD_elim hq214_
      clear hq214_
      obtain rfl := tup_inj eq212_
      have kq213_ := law5_L23_5_in1 ky cy er ka ca kb cb src r0 r1 r2 r3 k4 c5 r6 k7 c8 k9 c10 r11 r12 k13 c14 r15 k16 c17 k18 c19 k20 c21 k22 c23 k24 c25 r26 k90 c91 r92 k93 c94 k95 c96 r97 r98 k99 c100 r101 k102 c103 k104 c105 k106 c107 k108 c109 k110 c111 r112 k113 c114 r115 k116 c117 k118 c119 k120 c121 k122 c123 k124 c125 r126 k127 c128 k129 c130 r131 eq164_
      obtain rfl := Option.some.inj hq215_
      exact con_pc (op := true) (I := [5]) (sp := law5_sp) 3000 (bF 20 (bT 1 (bF 21 []))) [.one (.bool r0), .one (.bool r1), iD r2, .one (.bool r3), .agg [.list k4 c5, .one (.bool r6)], .agg [.list k7 c8, .list k9 c10], .tup [iD r11, iD r12], .agg [.list k13 c14, .one (.bool r15)], .agg [.list k16 c17, .list k18 c19], .tup [.agg [.list k20 c21, .list k22 c23], .list k24 c25, iD r26], .agg [.list k90 c91, .one (.bool r92)], .agg [.list k93 c94, .list k95 c96], .tup [iD r97, iD r98], .agg [.list k99 c100, .one (.bool r101)], .agg [.list k102 c103, .list k104 c105], .tup [.agg [.list k106 c107, .list k108 c109], .list k110 c111, iD r112], .agg [.list k113 c114, .one (.bool r115)], .agg [.list k116 c117, .list k118 c119], .tup [.agg [.list k120 c121, .list k122 c123], .list k124 c125, iD r126], .agg [.list k127 c128, .list k129 c130], .one (.bool r131), .tup [iD (Int.ofNat 0)], .tup [iD (Int.ofNat 1), .one (.bool l160)]] [c_nn b5_, c_nn b10_, c_nn b10_, c_nn b10_, c_nn b10_, c_nn b10_, c_bn b15_, c_bn b15_, c_bn b15_, c_bn b15_, c_nn bq5_, c_bn bq20_, c_bn bq20_, c_bn bq20_, c_bn bq118_, c_bn bq118_, c_bn bq20_, c_bn bq118_, c_bn bq20_, c_F, c_e bq118_, c_bn bq127_, c_bn bq127_, c_bn bq127_, c_n bq128_, c_n bq128_, c_n bq128_, c_n bq128_, c_n bq130_, c_bn bq146_, c_bn bq146_, c_bn bq146_, c_bn bq146_, c_bn bq146_, c_bn bq146_, c_bn bq149_, c_bn bq149_, c_bn bq149_, c_bn bq149_, c_bn bq149_, c_bn bq149_, c_nn bq156_] [k_c f1_, k_c f6_, k_c f11_, k_c fq1_, k_c fq6_, k_c fq8_, k_c fq10_, k_c fq12_, k_c fq14_, k_c fq16_, k_c fq119_, k_c fq121_, k_c fq123_, k_c fq132_, k_c fq134_, k_c fq136_, k_c fq138_, k_c fq140_, k_c fq142_, k_c fq150_, k_c fq152_, k_l kq161_ [] [.tup [iD (Int.ofNat 0)], .tup [iD (Int.ofNat 1), .one (.bool l160)]] [.tup [iD (Int.ofNat 1), .one (.bool l160)]], k_l kq213_ [] [.tup [iD (Int.ofNat 1), .one (.bool l160)]] []] (by kernel_rfl)
    have hq216_ := (if_neg jq211_).symm.trans hq210_
    clear hq210_
    cases hq216_
  have hq217_ := (if_neg jq159_).symm.trans hq158_
  clear hq158_
  by_cases jq218_ : j = 1
  · have hq221_ := (if_pos jq218_).symm.trans hq217_
    clear hq217_
    subst jq218_
    obtain ⟨l161, eq219_, hq222_⟩ := pullD_elim hq221_
    clear hq221_
    obtain rfl := tup_inj eq219_
    have kq220_ := law5_L18_4_in1 ky cy er ka ca kb cb src r0 r1 r2 r3 k4 c5 r6 k7 c8 k9 c10 r11 r12 k13 c14 r15 k16 c17 k18 c19 k20 c21 k22 c23 k24 c25 r26 k90 c91 r92 k93 c94 k95 c96 r97 r98 k99 c100 r101 k102 c103 k104 c105 k106 c107 k108 c109 k110 c111 r112 k113 c114 r115 k116 c117 k118 c119 k120 c121 k122 c123 k124 c125 r126 k127 c128 k129 c130 r131 eq157_
    obtain rfl := Option.some.inj hq222_
    exact con_pc (op := true) (I := [5]) (sp := law5_sp) 3000 (bF 20 (bT 1 (bF 21 []))) [.one (.bool r0), .one (.bool r1), iD r2, .one (.bool r3), .agg [.list k4 c5, .one (.bool r6)], .agg [.list k7 c8, .list k9 c10], .tup [iD r11, iD r12], .agg [.list k13 c14, .one (.bool r15)], .agg [.list k16 c17, .list k18 c19], .tup [.agg [.list k20 c21, .list k22 c23], .list k24 c25, iD r26], .agg [.list k90 c91, .one (.bool r92)], .agg [.list k93 c94, .list k95 c96], .tup [iD r97, iD r98], .agg [.list k99 c100, .one (.bool r101)], .agg [.list k102 c103, .list k104 c105], .tup [.agg [.list k106 c107, .list k108 c109], .list k110 c111, iD r112], .agg [.list k113 c114, .one (.bool r115)], .agg [.list k116 c117, .list k118 c119], .tup [.agg [.list k120 c121, .list k122 c123], .list k124 c125, iD r126], .agg [.list k127 c128, .list k129 c130], .one (.bool r131), .tup [iD (Int.ofNat 1), .one (.bool l161)]] [c_nn b5_, c_nn b10_, c_nn b10_, c_nn b10_, c_nn b10_, c_nn b10_, c_bn b15_, c_bn b15_, c_bn b15_, c_bn b15_, c_nn bq5_, c_bn bq20_, c_bn bq20_, c_bn bq20_, c_bn bq118_, c_bn bq118_, c_bn bq20_, c_bn bq118_, c_bn bq20_, c_F, c_e bq118_, c_bn bq127_, c_bn bq127_, c_bn bq127_, c_n bq128_, c_n bq128_, c_n bq128_, c_n bq128_, c_n bq130_, c_bn bq146_, c_bn bq146_, c_bn bq146_, c_bn bq146_, c_bn bq146_, c_bn bq146_, c_bn bq149_, c_bn bq149_, c_bn bq149_, c_bn bq149_, c_bn bq149_, c_bn bq149_, c_nn bq156_] [k_c f1_, k_c f6_, k_c f11_, k_c fq1_, k_c fq6_, k_c fq8_, k_c fq10_, k_c fq12_, k_c fq14_, k_c fq16_, k_c fq119_, k_c fq121_, k_c fq123_, k_c fq132_, k_c fq134_, k_c fq136_, k_c fq138_, k_c fq140_, k_c fq142_, k_c fq150_, k_c fq152_, k_l kq220_ [] [.tup [iD (Int.ofNat 1), .one (.bool l161)]] []] (by kernel_rfl)
  have hq223_ := (if_neg jq218_).symm.trans hq217_
  clear hq217_
  cases hq223_
theorem law5_M_ok (ky : Nat) (cy : List D) (er : Bool) (ka : Nat) (ca : List D) (kb : Nat) (cb : List D) (src : Int) {r : D} (h : law5_M ky cy er ka ca kb cb src = some r) : Con 5 [.agg [.list ky cy, .one (.bool er)], .agg [.list ka ca, .list kb cb], iD src] r := by
  unfold law5_M at h
  obtain ⟨r0, f1_, h2_⟩ := pullD_elim h
  replace f1_ := m_6_ok f1_
  by_cases b3_ : r0 = false
  · have h4_ := (if_pos b3_).symm.trans h2_
    obtain rfl := Option.some.inj h4_
    exact con_pc (op := true) (I := [5]) (sp := law5_sp) 3000 (bT 1 []) [.one (.bool r0)] [c_no b3_] [k_c f1_] (by kernel_rfl)
  have h4_ := (if_neg b3_).symm.trans h2_
  have b5_ : r0 = true := by first | exact b3_ | simpa using b3_
  obtain ⟨r1, f6_, h7_⟩ := pullD_elim h4_
  replace f6_ := m_7_ok f6_
  by_cases b8_ : r1 = false
  · have h9_ := (if_pos b8_).symm.trans h7_
    obtain rfl := Option.some.inj h9_
    exact con_pc (op := true) (I := [5]) (sp := law5_sp) 3000 (bF 1 (bT 10 [])) [.one (.bool r0), .one (.bool r1)] [c_nn b5_, c_no b8_, c_no b8_, c_no b8_, c_no b8_, c_no b8_, c_T, c_T, c_T, c_T, c_T] [k_c f1_, k_c f6_] (by kernel_rfl)
  have h9_ := (if_neg b8_).symm.trans h7_
  have b10_ : r1 = true := by first | exact b8_ | simpa using b8_
  obtain ⟨r2, f11_, h12_⟩ := pullD_elim h9_
  replace f11_ := m_17_ok f11_
  by_cases b13_ : r2 ≠ (0 : Int)
  · have h14_ := (if_pos b13_).symm.trans h12_
    obtain rfl := Option.some.inj h14_
    exact con_pc (op := true) (I := [5]) (sp := law5_sp) 3000 (bF 6 (bT 5 [])) [.one (.bool r0), .one (.bool r1), iD r2] [c_nn b5_, c_nn b10_, c_nn b10_, c_nn b10_, c_nn b10_, c_nn b10_, c_b b13_, c_b b13_, c_b b13_, c_b b13_, c_T] [k_c f1_, k_c f6_, k_c f11_] (by kernel_rfl)
  have h14_ := (if_neg b13_).symm.trans h12_
  have b15_ : r2 = (0 : Int) := by first | exact b13_ | simpa using b13_
  exact law5_M_s0_ok ky cy er ka ca kb cb src r0 r1 r2 f1_ b5_ f6_ b10_ f11_ b15_ h14_
def m_5 (ds : List D) : Option D := pullD (α := Nat × (List D) × Bool × Nat × (List D) × Nat × (List D) × Int) (some (.tup ds)) (fun d => ((D.ln (D.at (D.at d 0) 0)), (D.lc (D.at (D.at d 0) 0)), (D.vb (D.at (D.at d 0) 1)), (D.ln (D.at (D.at d 1) 0)), (D.lc (D.at (D.at d 1) 0)), (D.ln (D.at (D.at d 1) 1)), (D.lc (D.at (D.at d 1) 1)), (D.vi (D.at d 2)))) (fun (ky, cy, er, ka, ca, kb, cb, src) => .tup [.agg [.list ky cy, .one (.bool er)], .agg [.list ka ca, .list kb cb], iD src]) fun (ky, cy, er, ka, ca, kb, cb, src) => law5_M ky cy er ka ca kb cb src
theorem m_5_ok {ds : List D} {r : D} (h : m_5 ds = some r) : Con 5 ds r := by
  unfold m_5 at h
  obtain ⟨⟨ky, cy, er, ka, ca, kb, cb, src⟩, e0, h0⟩ := pullD_elim h
  obtain rfl := tup_inj e0
  exact law5_M_ok ky cy er ka ca kb cb src h0
theorem m_5_eq (ky : Nat) (cy : List D) (er : Bool) (ka : Nat) (ca : List D) (kb : Nat) (cb : List D) (src : Int) : m_5 [.agg [.list ky cy, .one (.bool er)], .agg [.list ka ca, .list kb cb], iD src] = law5_M ky cy er ka ca kb cb src := pullD_some (ky, cy, er, ka, ca, kb, cb, src) rfl rfl
end
end Go.Proofs.Ytfdehaafbkhclaa
/- The law of energy. -/
namespace Go.Proofs.Ytfdehaafbkhclaa
open Go.Ev Go.RowKit
set_option maxRecDepth 100000
section
variable {y a b : List Int}
theorem pLn {β : Type} {y : List Int} {er : Bool} (kk : Nat × List D × Bool → Option β) : pullD (some (lnD y er)) (fun d => (D.ln (D.at d 0), D.lc (D.at d 0), D.vb (D.at d 1))) (fun (z : Nat × List D × Bool) => match z with | (k2, c3, r4) => D.agg [.list k2 c3, .one (.bool r4)]) kk = kk (y.length, y.map iD, er) := pullD_some (y.length, y.map iD, er) rfl rfl
theorem pSt {β : Type} {a b : List Int} (kk : Nat × List D × Nat × List D → Option β) : pullD (some (stD a b)) (fun d => (D.ln (D.at d 0), D.lc (D.at d 0), D.ln (D.at d 1), D.lc (D.at d 1))) (fun (z : Nat × List D × Nat × List D) => match z with | (k13, c14, k15, c16) => D.agg [.list k13 c14, .list k15 c16]) kk = kk (a.length, a.map iD, b.length, b.map iD) := pullD_some (a.length, a.map iD, b.length, b.map iD) rfl rfl
theorem stateErr_any (y a b : List Int) (er : Bool) (hl : y.length ≤ 1000) : m_17 [lnD y er, stD a b] = some (iD (stE y a b)) := by
  by_cases h1 : a.length = y.length
  · by_cases h2 : b.length = y.length
    · exact stateErr_eq y a b er (by omega) (by omega)
    · rw [m_17_eq]
      unfold stateErr_M stE ckE
      rw [show [D.agg [D.list y.length (y.map iD), D.one (.bool er)]] = [lnD y er] from rfl, lineErr_eq, pullI]
      by_cases h0 : lineE y ≠ 0
      · rw [if_pos h0, if_pos h0]
      rw [if_neg h0, if_neg h0, if_neg (show ¬ ((a.length : Int) ≠ (y.length : Int)) by omega), if_pos (show (b.length : Int) ≠ (y.length : Int) by omega), if_neg (show ¬ (a.length ≠ y.length) by omega), if_pos (show b.length ≠ y.length from h2)]
  · rw [m_17_eq]
    unfold stateErr_M stE ckE
    rw [show [D.agg [D.list y.length (y.map iD), D.one (.bool er)]] = [lnD y er] from rfl, lineErr_eq, pullI]
    by_cases h0 : lineE y ≠ 0
    · rw [if_pos h0, if_pos h0]
    rw [if_neg h0, if_neg h0, if_pos (show (a.length : Int) ≠ (y.length : Int) by omega), if_pos (show a.length ≠ y.length from h1)]
theorem ng_tab {n : Nat} {f g : Nat → Int} (hb : ∀ i, i < n → -1000000 ≤ f i ∧ f i ≤ 1000000) (hg : ∀ i, i < n → g i = -f i) : ng (tab n f) = tab n g := by
  unfold ng
  rw [tab_len]
  refine tab_congr fun i hi => ?_
  have := hb i hi
  rw [tab_at _ hi, hg i hi, wr (by omega)]; omega
/-- What is turned over, answers turned over. -/
theorem odd (h : Ok y a b) (er : Bool) {src : Int} (hs : -1000 ≤ src ∧ src ≤ 1000) : ∃ (u v w w2 : List Int) (e : Int), m_10 [lnD y er, stD a b, iD src] = some (.tup [stD u v, lD w, iD e]) ∧ m_10 [lnD y er, stD (ng a) (ng b), iD (IntKind.i64.wrap (0 - src))] = some (.tup [stD (ng u) (ng v), lD w2, iD e]) ∧ u.length ≤ 1000 ∧ v.length ≤ 1000 ∧ w2.length = w.length ∧ w.length ≤ 1000 ∧ ∀ i, i < w.length → at' w i = IntKind.i64.wrap (0 - at' w2 i) := by
  have hle := h.le
  have la := h.la
  have lb := h.lb
  have e1 := step_eq y a b er src (by omega) (by omega) (by omega)
  have z := ok_st h
  have h' := ok_ng h
  have z' := ok_st h'
  have e2 := step_eq y (ng a) (ng b) er (-src) (by omega) (by have := h'.la; omega) (by have := h'.lb; omega)
  rw [wr (x := 0 - src) (by omega), Int.zero_sub]
  rw [if_neg (by omega), if_pos (by omega)] at e1 e2
  unfold stepV at e1 e2
  rw [wavE_neg (ng_fw h src), wavE_neg (ng_bk h er)] at e2
  by_cases p : wavE (tab y.length (fwF y a b src)) ≠ 0
  · rw [if_pos p] at e1 e2
    exact ⟨[], [], [], [], 22, e1, e2, by decide, by decide, rfl, by decide, fun i hi => absurd hi (Nat.not_lt_zero i)⟩
  rw [if_neg p] at e1 e2
  by_cases p2 : wavE (tab y.length (bkF y a b er y.length)) ≠ 0
  · rw [if_pos p2] at e1 e2
    exact ⟨[], [], [], [], 22, e1, e2, by decide, by decide, rfl, by decide, fun i hi => absurd hi (Nat.not_lt_zero i)⟩
  rw [if_neg p2] at e1 e2
  have b1 := wavE_zero.1 (show wavE (tab y.length (fwF y a b src)) = 0 by omega)
  have b2 := wavE_zero.1 (show wavE (tab y.length (bkF y a b er y.length)) = 0 by omega)
  refine ⟨_, _, _, tab (y.length + 1) (vF y (ng a) (ng b) (-src) er y.length), 0, e1, ?_, by rw [tab_len]; omega, by rw [tab_len]; omega, ?_, by rw [tab_len]; omega, ?_⟩
  · rw [e2, ng_tab b1 (ng_fw h src), ng_tab b2 (ng_bk h er)]
  · rw [tab_len, tab_len]
  · intro i hi
    rw [tab_len] at hi
    have vb := v_bound h er hs i hi
    rw [tab_at _ hi, tab_at _ hi, ng_v h er src i hi, wr (by omega)]; omega
theorem energy_ok (h : Ok y a b) (er : Bool) : m_12 [lnD y er, stD a b] = some (.tup [iD (enS y a b y.length), iD 0]) := by
  have hle := h.le
  have la := h.la
  have lb := h.lb
  have z := ok_st h
  rw [energyOf_eq y a b er (by omega) (by omega) (by omega), if_neg (by omega), z, enW_eq h _ (Nat.le_refl _)]
theorem bindConst {y : List Int} (hp : 0 < y.length) {S : Rd → Option Rd} {k : Nat → List D → Option D} {r : Option D} (h1 : ∀ i : Nat, i < y.length → S (.next 0 [iD (i : Int)]) = if at' y i ≠ at' y 0 then some (.out 1 [.one (.bool true)]) else some (.next 0 [iD ((i + 1 : Nat) : Int)])) (h2 : S (.next 0 [iD (y.length : Int)]) = some (.out 0 []))
    (k1 : k 1 [.one (.bool true)] = r) (k0 : (∀ i, i < y.length → at' y i = at' y 0) → k 0 [] = r) : bindL (runR S (.next 0 [iD 1])) k = r := by
  rcases go_const hp S h1 h2 with e | ⟨e, hc⟩
  · rw [bindL_some e]; exact k1
  · rw [bindL_some e]; exact k0 hc
theorem law5_eq (y a b : List Int) (er : Bool) (src : Int) : m_5 [lnD y er, stD a b, iD src] = some (.one (.bool true)) := by
  rw [m_5_eq]
  unfold law5_M
  rw [m_6_eq, pullB, if_neg (by decide), show [D.agg [D.list y.length (y.map iD), D.one (.bool er)]] = [lnD y er] from rfl, few_eq, pullB]
  by_cases f1 : (y.length : Int) ≤ 12
  rotate_left
  · rw [if_pos (by simpa using f1)]
  have hl : y.length ≤ 1000 := by omega
  rw [if_neg (by simpa using f1), show [D.agg [D.list y.length (y.map iD), D.one (.bool er)], D.agg [D.list (a).length ((a).map iD), D.list (b).length ((b).map iD)]] = [lnD y er, stD (a) (b)] from rfl, stateErr_any y a b er hl, pullI]
  by_cases z : stE y a b ≠ 0
  · rw [if_pos z]
  rw [if_neg z]
  have h := ok_of (y := y) (a := a) (b := b) (by omega)
  have hp := h.pos
  have hle := h.le
  have la := h.la
  have lb := h.lb
  have ha : a.length ≤ 1000 := by omega
  have hb : b.length ≤ 1000 := by omega
  have cL := copyLine_eq y er hl
  have cS := copyState_eq a b ha hb
  unfold law5_M_s0
  rw [within_eq, pullB]
  by_cases hs : -1000 ≤ src ∧ src ≤ 1000
  rotate_left
  · rw [if_pos (by simpa using hs)]
  obtain ⟨u, v, w, w2, e, hst, hng, lu, lv, lw, lw1, hw⟩ := odd h er hs
  rw [if_neg (by simpa using hs), show [D.agg [D.list y.length (y.map iD), D.one (.bool er)]] = [lnD y er] from rfl, cL, pLn]
  dsimp only
  first | rw [show [D.agg [D.list (a).length ((a).map iD), D.list (b).length ((b).map iD)]] = [stD (a) (b)] from rfl, cS, pSt] | rw [pSt]
  dsimp only
  rw [show [D.agg [D.list y.length (y.map iD), D.one (.bool er)], D.agg [D.list (a).length ((a).map iD), D.list (b).length ((b).map iD)]] = [lnD y er, stD (a) (b)] from rfl, energy_ok h er, pullD_some (enS y a b y.length, 0) (by rfl) (by rfl)]
  dsimp only
  first | rw [show [D.agg [D.list y.length (y.map iD), D.one (.bool er)]] = [lnD y er] from rfl, cL, pLn] | rw [pLn]
  dsimp only
  first | rw [show [D.agg [D.list (a).length ((a).map iD), D.list (b).length ((b).map iD)]] = [stD (a) (b)] from rfl, cS, pSt] | rw [pSt]
  dsimp only
  have e0 := step_eq y a b er 0 hl ha hb
  rw [if_neg z, if_pos (by decide)] at e0
  unfold stepV at e0
  by_cases ok0 : wavE (tab y.length (fwF y a b 0)) = 0 ∧ wavE (tab y.length (bkF y a b er y.length)) = 0
  · rw [if_neg (by omega), if_neg (by omega)] at e0
    have so : stE y (tab y.length (fwF y a b 0)) (tab y.length (bkF y a b er y.length)) = 0 := stE_of (show stE y a b = 0 by omega) (tab_len _ _) (tab_len _ _) (by omega) (by omega)
    have h1 := ok_of so
    have en := en_step h er
    have en0 := enB h1 y.length (Nat.le_refl _)
    have eo := energy_ok h1 er
    have lF : (tab y.length (fwF y a b 0)).length ≤ 1000 := by rw [tab_len]; exact hl
    have lB : (tab y.length (bkF y a b er y.length)).length ≤ 1000 := by rw [tab_len]; exact hl
    generalize tab y.length (fwF y a b 0) = F at *
    generalize tab y.length (bkF y a b er y.length) = B at *
    rw [show [D.agg [D.list y.length (y.map iD), D.one (.bool er)], D.agg [D.list (a).length ((a).map iD), D.list (b).length ((b).map iD)], iD (0)] = [lnD y er, stD (a) (b), iD (0)] from rfl, e0, pullT]
    dsimp only
    rw [if_neg (show ¬ ((0 : Int) ≠ 0) by decide)]
    rw [if_neg (show ¬ ((0 : Int) ≠ 0) by decide)]
    first | rw [show [D.agg [D.list y.length (y.map iD), D.one (.bool er)]] = [lnD y er] from rfl, cL, pLn] | rw [pLn]
    dsimp only
    rw [show [D.agg [D.list (F).length ((F).map iD), D.list (B).length ((B).map iD)]] = [stD (F) (B)] from rfl, copyState_eq F B lF lB, pSt]
    dsimp only
    rw [show [D.agg [D.list y.length (y.map iD), D.one (.bool er)], D.agg [D.list (F).length ((F).map iD), D.list (B).length ((B).map iD)]] = [lnD y er, stD (F) (B)] from rfl, eo, pullD_some (enS y F B y.length, 0) (by rfl) (by rfl)]
    dsimp only
    rw [if_neg (show ¬ ((0 : Int) ≠ 0) by decide), if_neg (by omega), if_neg (by omega)]
    first | rw [show [D.agg [D.list y.length (y.map iD), D.one (.bool er)]] = [lnD y er] from rfl, cL, pLn] | rw [pLn]
    dsimp only
    first | rw [show [D.agg [D.list (a).length ((a).map iD), D.list (b).length ((b).map iD)]] = [stD (a) (b)] from rfl, cS, pSt] | rw [pSt]
    dsimp only
    rw [show [D.agg [D.list y.length (y.map iD), D.one (.bool er)], D.agg [D.list (a).length ((a).map iD), D.list (b).length ((b).map iD)], iD (src)] = [lnD y er, stD (a) (b), iD (src)] from rfl, hst, pullT]
    dsimp only
    first | rw [show [D.agg [D.list y.length (y.map iD), D.one (.bool er)]] = [lnD y er] from rfl, cL, pLn] | rw [pLn]
    dsimp only
    rw [show [D.agg [D.list (a).length ((a).map iD), D.list (b).length ((b).map iD)]] = [stD (a) (b)] from rfl, opposite_eq a b ha hb, pSt]
    dsimp only
    rw [show [D.agg [D.list y.length (y.map iD), D.one (.bool er)], D.agg [D.list (ng a).length ((ng a).map iD), D.list (ng b).length ((ng b).map iD)], iD (IntKind.i64.wrap (0 - src))] = [lnD y er, stD (ng a) (ng b), iD (IntKind.i64.wrap (0 - src))] from rfl, hng, pullT]
    dsimp only
    rw [if_neg (by simp), if_neg (by omega), show [D.agg [D.list (u).length ((u).map iD), D.list (v).length ((v).map iD)]] = [stD (u) (v)] from rfl, opposite_eq u v lu lv, pSt]
    dsimp only
    rw [show [D.agg [D.list (ng u).length ((ng u).map iD), D.list (ng v).length ((ng v).map iD)], D.agg [D.list (ng u).length ((ng u).map iD), D.list (ng v).length ((ng v).map iD)]] = [stD (ng u) (ng v), stD (ng u) (ng v)] from rfl, same_eq _ _ (by rw [tab_len]; exact lu) (by rw [tab_len]; exact lv), pullB, if_neg (by decide)]
    refine (bindL_some (go_all w.length 0 (Nat.zero_le _) _ ?_ ?_)).trans ?_
    · intro i hi
      rw [law5_L18_4_S_0]
      unfold law5_L18_4_S0
      rw [pullD_some (i : Int) (by rfl) (by rfl), if_pos (by omega), guardP_pos (by omega), readA hi, pullD_some (at' w i) (by rfl) (by rfl), guardP_pos (by omega), readA (by omega), pullD_some (at' w2 i) (by rfl) (by rfl), if_neg (fun c => c (hw i hi)), natI (by omega)]
    · rw [law5_L18_4_S_0]
      unfold law5_L18_4_S0
      rw [pullD_some (w.length : Int) (by rfl) (by rfl), if_neg (by omega)]
    rw [if_pos rfl, pullD_some () (by rfl) (by rfl)]
    refine bindConst hp ?_ ?_ ?_ ?_
    · intro i hi
      rw [law5_L23_5_S_0]
      unfold law5_L23_5_S0
      rw [pullD_some (i : Int) (by rfl) (by rfl), if_pos (by omega), guardP_pos (by omega), readA hi, pullD_some (at' y i) (by rfl) (by rfl), guardP_pos ⟨by omega, by show 0 < _; omega⟩, show Int.toNat 0 * 1 = 0 * 1 from rfl, readN hp, pullD_some (at' y 0) (by rfl) (by rfl), natI (by omega)]
    · rw [law5_L23_5_S_0]
      unfold law5_L23_5_S0
      rw [pullD_some (y.length : Int) (by rfl) (by rfl), if_neg (by omega)]
    · rw [if_neg (by decide), if_pos rfl, pullD_some true (by rfl) (by rfl)]
    · intro hc
      rw [if_pos rfl, pullD_some () (by rfl) (by rfl)]
      cases er with
      | true =>
        rw [if_pos rfl]
        first | rw [show [D.agg [D.list (a).length ((a).map iD), D.list (b).length ((b).map iD)]] = [stD (a) (b)] from rfl, cS, pSt] | rw [pSt]
        dsimp only
        refine (bindL_some (go_period h true hc (K := 2 * y.length) (.inr ⟨rfl, rfl⟩) _ ?_ ?_)).trans ?_
        · intro i u' v' u2 v2 w' hi l1 l2 e
          rw [law5_L32_6_S_0]
          unfold law5_L32_6_S0
          rw [pullD_some ((i : Int), u'.length, u'.map iD, v'.length, v'.map iD) (by rfl) (by rfl)]
          dsimp only
          rw [wr (x := 2 * (y.length : Int)) (by omega), if_pos (by omega), show [D.agg [D.list y.length (y.map iD), D.one (.bool true)]] = [lnD y true] from rfl, copyLine_eq y true hl, pLn]
          dsimp only
          rw [show [D.agg [D.list y.length (y.map iD), D.one (.bool true)], D.agg [D.list (u').length ((u').map iD), D.list (v').length ((v').map iD)], iD (0)] = [lnD y true, stD (u') (v'), iD (0)] from rfl, e, pullT]
          dsimp only
          rw [if_neg (by simp), show [D.agg [D.list (u2).length ((u2).map iD), D.list (v2).length ((v2).map iD)]] = [stD (u2) (v2)] from rfl, copyState_eq u2 v2 l1 l2, pSt]
          dsimp only
          rw [natI (by omega)]
        · rw [law5_L32_6_S_0]
          unfold law5_L32_6_S0
          rw [pullD_some (((2 * y.length : Nat) : Int), a.length, a.map iD, b.length, b.map iD) (by rfl) (by rfl)]
          dsimp only
          rw [wr (x := 2 * (y.length : Int)) (by omega), if_neg (by omega)]
        rw [if_pos rfl, pullD_some (a.length, a.map iD, b.length, b.map iD) (by rfl) (by rfl)]
        dsimp only
        rw [show [D.agg [D.list a.length (a.map iD), D.list b.length (b.map iD)], D.agg [D.list a.length (a.map iD), D.list b.length (b.map iD)]] = [stD a b, stD a b] from rfl, same_eq a b ha hb, pullB]
      | false =>
        rw [if_neg (by decide)]
        first | rw [show [D.agg [D.list (a).length ((a).map iD), D.list (b).length ((b).map iD)]] = [stD (a) (b)] from rfl, cS, pSt] | rw [pSt]
        dsimp only
        refine (bindL_some (go_period h false hc (K := 4 * y.length) (.inl rfl) _ ?_ ?_)).trans ?_
        · intro i u' v' u2 v2 w' hi l1 l2 e
          rw [law5_L32_7_S_0]
          unfold law5_L32_7_S0
          rw [pullD_some ((i : Int), u'.length, u'.map iD, v'.length, v'.map iD) (by rfl) (by rfl)]
          dsimp only
          rw [wr (x := 4 * (y.length : Int)) (by omega), if_pos (by omega), show [D.agg [D.list y.length (y.map iD), D.one (.bool false)]] = [lnD y false] from rfl, copyLine_eq y false hl, pLn]
          dsimp only
          rw [show [D.agg [D.list y.length (y.map iD), D.one (.bool false)], D.agg [D.list (u').length ((u').map iD), D.list (v').length ((v').map iD)], iD (0)] = [lnD y false, stD (u') (v'), iD (0)] from rfl, e, pullT]
          dsimp only
          rw [if_neg (by simp), show [D.agg [D.list (u2).length ((u2).map iD), D.list (v2).length ((v2).map iD)]] = [stD (u2) (v2)] from rfl, copyState_eq u2 v2 l1 l2, pSt]
          dsimp only
          rw [natI (by omega)]
        · rw [law5_L32_7_S_0]
          unfold law5_L32_7_S0
          rw [pullD_some (((4 * y.length : Nat) : Int), a.length, a.map iD, b.length, b.map iD) (by rfl) (by rfl)]
          dsimp only
          rw [wr (x := 4 * (y.length : Int)) (by omega), if_neg (by omega)]
        rw [if_pos rfl, pullD_some (a.length, a.map iD, b.length, b.map iD) (by rfl) (by rfl)]
        dsimp only
        rw [show [D.agg [D.list a.length (a.map iD), D.list b.length (b.map iD)], D.agg [D.list a.length (a.map iD), D.list b.length (b.map iD)]] = [stD a b, stD a b] from rfl, same_eq a b ha hb, pullB]
  · have e22 : m_10 [lnD y er, stD a b, iD 0] = some (.tup [stD [] [], lD [], iD 22]) := by
      rw [e0]
      by_cases p : wavE (tab y.length (fwF y a b 0)) ≠ 0
      · rw [if_pos p]
      · rw [if_neg p, if_pos (by omega)]
    rw [show [D.agg [D.list y.length (y.map iD), D.one (.bool er)], D.agg [D.list (a).length ((a).map iD), D.list (b).length ((b).map iD)], iD (0)] = [lnD y er, stD (a) (b), iD (0)] from rfl, e22, pullT]
    dsimp only
    rw [if_neg (show ¬ ((0 : Int) ≠ 0) by decide), if_pos (show (22 : Int) ≠ 0 by decide), if_neg (show ¬ ((22 : Int) ≠ 22) by decide)]
    first | rw [show [D.agg [D.list y.length (y.map iD), D.one (.bool er)]] = [lnD y er] from rfl, cL, pLn] | rw [pLn]
    dsimp only
    first | rw [show [D.agg [D.list (a).length ((a).map iD), D.list (b).length ((b).map iD)]] = [stD (a) (b)] from rfl, cS, pSt] | rw [pSt]
    dsimp only
    rw [show [D.agg [D.list y.length (y.map iD), D.one (.bool er)], D.agg [D.list (a).length ((a).map iD), D.list (b).length ((b).map iD)], iD (src)] = [lnD y er, stD (a) (b), iD (src)] from rfl, hst, pullT]
    dsimp only
    first | rw [show [D.agg [D.list y.length (y.map iD), D.one (.bool er)]] = [lnD y er] from rfl, cL, pLn] | rw [pLn]
    dsimp only
    rw [show [D.agg [D.list (a).length ((a).map iD), D.list (b).length ((b).map iD)]] = [stD (a) (b)] from rfl, opposite_eq a b ha hb, pSt]
    dsimp only
    rw [show [D.agg [D.list y.length (y.map iD), D.one (.bool er)], D.agg [D.list (ng a).length ((ng a).map iD), D.list (ng b).length ((ng b).map iD)], iD (IntKind.i64.wrap (0 - src))] = [lnD y er, stD (ng a) (ng b), iD (IntKind.i64.wrap (0 - src))] from rfl, hng, pullT]
    dsimp only
    rw [if_neg (by simp), if_neg (by omega), show [D.agg [D.list (u).length ((u).map iD), D.list (v).length ((v).map iD)]] = [stD (u) (v)] from rfl, opposite_eq u v lu lv, pSt]
    dsimp only
    rw [show [D.agg [D.list (ng u).length ((ng u).map iD), D.list (ng v).length ((ng v).map iD)], D.agg [D.list (ng u).length ((ng u).map iD), D.list (ng v).length ((ng v).map iD)]] = [stD (ng u) (ng v), stD (ng u) (ng v)] from rfl, same_eq _ _ (by rw [tab_len]; exact lu) (by rw [tab_len]; exact lv), pullB, if_neg (by decide)]
    refine (bindL_some (go_all w.length 0 (Nat.zero_le _) _ ?_ ?_)).trans ?_
    · intro i hi
      rw [law5_L18_S_0]
      unfold law5_L18_S0
      rw [pullD_some (i : Int) (by rfl) (by rfl), if_pos (by omega), guardP_pos (by omega), readA hi, pullD_some (at' w i) (by rfl) (by rfl), guardP_pos (by omega), readA (by omega), pullD_some (at' w2 i) (by rfl) (by rfl), if_neg (fun c => c (hw i hi)), natI (by omega)]
    · rw [law5_L18_S_0]
      unfold law5_L18_S0
      rw [pullD_some (w.length : Int) (by rfl) (by rfl), if_neg (by omega)]
    rw [if_pos rfl, pullD_some () (by rfl) (by rfl)]
    refine bindConst hp ?_ ?_ ?_ ?_
    · intro i hi
      rw [law5_L23_S_0]
      unfold law5_L23_S0
      rw [pullD_some (i : Int) (by rfl) (by rfl), if_pos (by omega), guardP_pos (by omega), readA hi, pullD_some (at' y i) (by rfl) (by rfl), guardP_pos ⟨by omega, by show 0 < _; omega⟩, show Int.toNat 0 * 1 = 0 * 1 from rfl, readN hp, pullD_some (at' y 0) (by rfl) (by rfl), natI (by omega)]
    · rw [law5_L23_S_0]
      unfold law5_L23_S0
      rw [pullD_some (y.length : Int) (by rfl) (by rfl), if_neg (by omega)]
    · rw [if_neg (by decide), if_pos rfl, pullD_some true (by rfl) (by rfl)]
    · intro hc
      rw [if_pos rfl, pullD_some () (by rfl) (by rfl)]
      cases er with
      | true =>
        rw [if_pos rfl]
        first | rw [show [D.agg [D.list (a).length ((a).map iD), D.list (b).length ((b).map iD)]] = [stD (a) (b)] from rfl, cS, pSt] | rw [pSt]
        dsimp only
        refine (bindL_some (go_period h true hc (K := 2 * y.length) (.inr ⟨rfl, rfl⟩) _ ?_ ?_)).trans ?_
        · intro i u' v' u2 v2 w' hi l1 l2 e
          rw [law5_L32_S_0]
          unfold law5_L32_S0
          rw [pullD_some ((i : Int), u'.length, u'.map iD, v'.length, v'.map iD) (by rfl) (by rfl)]
          dsimp only
          rw [wr (x := 2 * (y.length : Int)) (by omega), if_pos (by omega), show [D.agg [D.list y.length (y.map iD), D.one (.bool true)]] = [lnD y true] from rfl, copyLine_eq y true hl, pLn]
          dsimp only
          rw [show [D.agg [D.list y.length (y.map iD), D.one (.bool true)], D.agg [D.list (u').length ((u').map iD), D.list (v').length ((v').map iD)], iD (0)] = [lnD y true, stD (u') (v'), iD (0)] from rfl, e, pullT]
          dsimp only
          rw [if_neg (by simp), show [D.agg [D.list (u2).length ((u2).map iD), D.list (v2).length ((v2).map iD)]] = [stD (u2) (v2)] from rfl, copyState_eq u2 v2 l1 l2, pSt]
          dsimp only
          rw [natI (by omega)]
        · rw [law5_L32_S_0]
          unfold law5_L32_S0
          rw [pullD_some (((2 * y.length : Nat) : Int), a.length, a.map iD, b.length, b.map iD) (by rfl) (by rfl)]
          dsimp only
          rw [wr (x := 2 * (y.length : Int)) (by omega), if_neg (by omega)]
        rw [if_pos rfl, pullD_some (a.length, a.map iD, b.length, b.map iD) (by rfl) (by rfl)]
        dsimp only
        rw [show [D.agg [D.list a.length (a.map iD), D.list b.length (b.map iD)], D.agg [D.list a.length (a.map iD), D.list b.length (b.map iD)]] = [stD a b, stD a b] from rfl, same_eq a b ha hb, pullB]
      | false =>
        rw [if_neg (by decide)]
        first | rw [show [D.agg [D.list (a).length ((a).map iD), D.list (b).length ((b).map iD)]] = [stD (a) (b)] from rfl, cS, pSt] | rw [pSt]
        dsimp only
        refine (bindL_some (go_period h false hc (K := 4 * y.length) (.inl rfl) _ ?_ ?_)).trans ?_
        · intro i u' v' u2 v2 w' hi l1 l2 e
          rw [law5_L32_3_S_0]
          unfold law5_L32_3_S0
          rw [pullD_some ((i : Int), u'.length, u'.map iD, v'.length, v'.map iD) (by rfl) (by rfl)]
          dsimp only
          rw [wr (x := 4 * (y.length : Int)) (by omega), if_pos (by omega), show [D.agg [D.list y.length (y.map iD), D.one (.bool false)]] = [lnD y false] from rfl, copyLine_eq y false hl, pLn]
          dsimp only
          rw [show [D.agg [D.list y.length (y.map iD), D.one (.bool false)], D.agg [D.list (u').length ((u').map iD), D.list (v').length ((v').map iD)], iD (0)] = [lnD y false, stD (u') (v'), iD (0)] from rfl, e, pullT]
          dsimp only
          rw [if_neg (by simp), show [D.agg [D.list (u2).length ((u2).map iD), D.list (v2).length ((v2).map iD)]] = [stD (u2) (v2)] from rfl, copyState_eq u2 v2 l1 l2, pSt]
          dsimp only
          rw [natI (by omega)]
        · rw [law5_L32_3_S_0]
          unfold law5_L32_3_S0
          rw [pullD_some (((4 * y.length : Nat) : Int), a.length, a.map iD, b.length, b.map iD) (by rfl) (by rfl)]
          dsimp only
          rw [wr (x := 4 * (y.length : Int)) (by omega), if_neg (by omega)]
        rw [if_pos rfl, pullD_some (a.length, a.map iD, b.length, b.map iD) (by rfl) (by rfl)]
        dsimp only
        rw [show [D.agg [D.list a.length (a.map iD), D.list b.length (b.map iD)], D.agg [D.list a.length (a.map iD), D.list b.length (b.map iD)]] = [stD a b, stD a b] from rfl, same_eq a b ha hb, pullB]
theorem law5_con (y a b : List Int) (er : Bool) (src : Int) : Con 5 [.agg [lD y, .one (.bool er)], .agg [lD a, lD b], .one (.int .i64 src)] (.one (.bool true)) := m_5_ok (law5_eq y a b er src)
end
end Go.Proofs.Ytfdehaafbkhclaa
/- SurgeEnergy: what the runs give, for every argument. -/
namespace Go.Proofs.Ytfdehaafbkhclaa.surgeEnergy
open Go.ChangeShapes Go.WideShapes Go.ChangeAt Go.RowKit Go.Joins Go.Ev
set_option maxRecDepth 100000 in
/-- WHAT THE RUNS GIVE, FOR EVERY ARGUMENT AND EVERY WORLD THAT HOLDS THE TABLES. -/
theorem contract (H : Type) (enc : TypeId × Value → H) (W : World) (base : Nat) (args : Array Value) (ds gs : List (DataW H)) (before : List MemPlace)
    (hval : ∀ (j : Nat) t v, Try.f5.params[j]? = some t → args[j]? = some v → Value.okWide Try.prog W .any base t v)
    (hW : DataW.Whole enc Try.prog Try.f5.params.toList Rows.surgeEnergySpec.vars false W args.toList ds gs before) (hL : laidMetH Try.prog Rows.surgeEnergyRow.laid W) :
    Calls Try.prog 5 args W fun e W' => ∃ v, e = .returned v ∧ Rows.surgeEnergySpec.post enc Try.prog Try.f5 false true false false W args v W' := by
  have hW' := hW
  have hlt := hW.lt
  obtain ⟨p, q, hA0, hV, rfl, hfz, hnd⟩ := hW
  have hA : DataW.TrodAll enc Try.prog W 0 (fun _ => true) true Try.f5.params.toList args.toList ds p := hA0
  rw [Try.params5] at hA hval
  obtain ⟨v0, vs0, d0, ds0, p0, q0, hargs, rfl, rfl, h0, r0⟩ := trodAll_cons hA
  obtain ⟨v1, vs1, d1, ds1, p1, q1, rfl, rfl, rfl, h1, r1⟩ := trodAll_cons r0
  obtain ⟨v2, vs2, d2, ds2, p2, q2, rfl, rfl, rfl, h2, r2⟩ := trodAll_cons r1
  obtain ⟨rfl, rfl, rfl⟩ := trodAll_nil r2
  obtain rfl : args = #[v0, v1, v2] := by cases args; simp_all
  obtain ⟨rfl, rfl⟩ := trodVars_none hV
  obtain ⟨e0, o0, k0⟩ := open_agg (ls := [.sl [.int .i64], .bool]) 8 (by kernel_rfl) (by kernel_rfl) (by kernel_rfl) (hval 0 24 v0 rfl rfl) h0
  obtain ⟨y, er, rfl⟩ := line_of o0
  obtain ⟨e1, o1, k1⟩ := open_agg (ls := [.sl [.int .i64], .sl [.int .i64]]) 8 (by kernel_rfl) (by kernel_rfl) (by kernel_rfl) (hval 1 26 v1 rfl rfl) h1
  obtain ⟨a, b, rfl⟩ := state_of o1
  obtain ⟨e2, o2, k2⟩ := open_cell (c := .int .i64) 8 (by kernel_rfl) (by kernel_rfl) (by kernel_rfl) (hval 2 3 v2 rfl rfl) h2
  obtain ⟨src, rfl, -⟩ := int_of o2
  have hr : RpL (fun _ => True) W [.agg [lD y, .one (.bool er)], .agg [lD a, lD b], .one (.int .i64 src)] [v0, v1, v2] := by
    simp only [RpL]
    exact ⟨v0, _, rfl, k0, ⟨v1, _, rfl, k1, ⟨v2, _, rfl, k2, rfl⟩⟩⟩
  refine (law5_con y a b er src W (fun _ => True) _ tabs0 hr).mono fun e W' ⟨v, he, hv, hg⟩ => ?_
  simp only [Rp] at hv
  subst he
  subst hv
  have hlaid : laidOutB Try.prog = true := by kernel_rfl
  exact ⟨_, rfl, post_below (pa := (p0 ++ (p1 ++ (p2 ++ [])))) (pv := []) hW' (fun _ _ _ => trodAll_cons_mk (shut_bool Try.underlying4 _) trodAll_mk0) (fun sp hsp => by
    rw [Try.params5]
    exact trodAll_cons_mk (stays hlaid (by kernel_rfl) (of_decide_eq_true (by kernel_rfl)) h0 hg (fun x hx => hlt x (by simp only [List.mem_append]; left; left; exact hx)) (fun x hx => hsp x (by simp only [List.mem_append]; left; left; exact hx))) (trodAll_cons_mk (stays hlaid (by kernel_rfl) (of_decide_eq_true (by kernel_rfl)) h1 hg (fun x hx => hlt x (by simp only [List.mem_append]; left; right; left; exact hx)) (fun x hx => hsp x (by simp only [List.mem_append]; left; right; left; exact hx))) (trodAll_cons_mk (stays hlaid (by kernel_rfl) (of_decide_eq_true (by kernel_rfl)) h2 hg (fun x hx => hlt x (by simp only [List.mem_append]; left; right; right; left; exact hx)) (fun x hx => hsp x (by simp only [List.mem_append]; left; right; right; left; exact hx))) (trodAll_mk0)))) (fun _ _ => rfl) rfl
    hg (ok_one (by kernel_rfl) rfl (okWide_bool_mk Try.underlying4 _))⟩
end Go.Proofs.Ytfdehaafbkhclaa.surgeEnergy
/- SurgeEnergy: closed facts of the witness. -/
namespace Go.Proofs.Ytfdehaafbkhclaa.surgeEnergy
open Go.ChangeShapes Go.WideShapes Go.ChangeAt Go.RowKit Go.Joins
/-- THE WITNESS's ARGUMENTS. -/
noncomputable def args0 : Array Value := #[.agg #[.slice none 0 0, .bool false], .agg #[.slice none 0 0, .slice none 0 0], .int .i64 0]
/-- A WORLD FOR THE WITNESS: the heap that the program's own initialisers leave. -/
noncomputable def start (os : Os) : World := World.doorLaid Try.prog 400 os
theorem laid_met (os : Os) : laidMet Try.prog Rows.surgeEnergyRow.laid ((start os).forCall (fun _ _ => 0) ⟨#[], args0, []⟩).memory := ⟨[], rfl, List.nodup_nil, fun _ _ h => by cases h⟩
theorem reads (os : Os) {H : Type} (enc : TypeId × Value → H) : ∃ places, DataW.whole enc Try.prog ((start os).forCall (fun _ _ => 0) ⟨#[], args0, []⟩).memory Try.f5.params.toList Rows.surgeEnergySpec.vars false args0.toList 8 = some ([.agg [.nil, .lit (.bool false)], .agg [.nil, .nil], .lit (.int .i64 0)], [], places) :=
  ⟨[], by kernel_rfl⟩
theorem vB (os : Os) : ((start os).forCall (fun _ _ => 0) ⟨#[], args0, []⟩).variablesB Try.prog = true := by kernel_rfl
theorem rB (os : Os) : (((start os).forCall (fun _ _ => 0) ⟨#[], args0, []⟩).heap.toList.drop Try.prog.globals.size).take ((begin Try.prog (fun _ _ => 0) default).world.heap.size - Try.prog.globals.size) = (begin Try.prog (fun _ _ => 0) default).world.heap.toList.drop Try.prog.globals.size := by kernel_rfl
theorem oB (os : Os) : Input.okWideB Try.prog ((start os).forCall (fun _ _ => 0) ⟨#[], args0, []⟩) 5 ⟨#[], args0, []⟩ = true := by kernel_rfl
theorem hB (os : Os) : (start os).os = os := by kernel_rfl
end Go.Proofs.Ytfdehaafbkhclaa.surgeEnergy
/- For any line, state and source, valid or not, the law SurgeEnergy of the program answers true, and its arguments read as they did. CONDITIONS: none. -/
namespace Go.Proofs.Ytfdehaafbkhclaa.surgeEnergy
open Go.ChangeShapes Go.WideShapes Go.ChangeAt Go.RowKit Go.Joins
set_option maxRecDepth 100000 in
theorem lifted (os : Os) (started : os.Started) (H : Type) (enc : TypeId × Value → H) (F : Stop.Interp) :
    ReturnsInHanded {} Try.checked os 5 .any ((OpenSpec.ofChange Rows.surgeEnergySpec).preRow enc Try.prog Try.f5 Rows.surgeEnergyRow.domain false Rows.surgeEnergyRow.laid) (((OpenSpec.ofChange Rows.surgeEnergySpec).at F).post enc Try.prog Try.f5 false true false false) := by
  obtain ⟨places, hx⟩ := reads os enc
  refine returnsInHanded_of_row (C := Try.checked) (s := OpenSpec.ofChange Rows.surgeEnergySpec) own started (by kernel_rfl) Try.func5
    (witness_row_at (enc := enc) (C := Try.checked) false (start os) args0 (hB os) (vB os) (rB os) (oB os)
      (OpenSpec.preRow_of_cond 8 hx (by kernel_rfl) (fun k hk => by cases hk) (by kernel_rfl) (laid_met os))) ?_
  intro W base args ds gs before hval hW _ _ _ hL _ _
  exact contract H enc W base args ds gs before hval hW hL
theorem said : Rows.SurgeEnergySaid :=
  OpenClaim.holds_of_cond 5 Try.f5 rfl rfl rfl rfl rfl rfl rfl ⟨rfl, rfl, rfl, rfl, rfl⟩ rfl rfl rfl rfl rfl (by kernel_rfl) Try.func5 (by kernel_rfl)
    (of_decide_eq_true (by kernel_rfl)) (by unfold Func.isWrapper; first | (rw [if_pos (by decide +kernel)]; kernel_rfl) | (rw [if_neg (by decide +kernel)]; exact ⟨rfl, rfl⟩))
    (fun os started H enc _ F => by rw [OpenClaim.pre_eq_preRow]; exact lifted os started H enc F)
end Go.Proofs.Ytfdehaafbkhclaa.surgeEnergy
