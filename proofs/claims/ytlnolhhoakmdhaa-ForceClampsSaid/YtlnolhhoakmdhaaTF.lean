import Derived.Test.YtlnolhhoakmdhaaTD
import Derived.Test.YtlnolhhoakmdhaaTE
set_option linter.unusedVariables false
set_option linter.unusedSimpArgs false
set_option linter.unusedSectionVars false
set_option linter.unnecessarySimpa false
namespace Go.Proofs.Ytlnolhhoakmdhaa
open Go.Ev Go.RowKit
set_option maxRecDepth 100000
set_option maxHeartbeats 8000000
set_option linter.all false
noncomputable section
abbrev shNF5_0 (a0 : Int) (a1 : Int) (a2 : Int) (a3 : Int) (a4 : Int) (a5 : Int) : D := .agg [.one (.int .i64 a0), .one (.int .i64 a1), .one (.int .i64 a2), .one (.int .i64 a3), .one (.int .i64 a4), .one (.int .i64 a5)]
def chkClamp_sp : List LSpec := []
def chkClamp_M_s0 (pa pb pc pd pe pf : Int) (r0 : Int) (r1 : Int) : Option D := pullD (α := Int) (m_102 [.list 1 [iD pc, iD pd]]) (fun d => ((D.vi d))) (fun r2 => iD r2) fun r2 => (pullD (α := Int) (m_83 [.list 2 [iD (2 : Int), iD r2]]) (fun d => ((D.vi d))) (fun r3 => iD r3) fun r3 => ((if pe < (0 : Int) then pullD (α := Int) (m_102 [.list 1 [iD pe, iD pf]]) (fun d => ((D.vi d))) (fun r4 => iD r4) fun r4 => (pullD (α := Int) (m_83 [.list 2 [iD (2 : Int), iD r4]]) (fun d => ((D.vi d))) (fun r5 => iD r5) fun r5 => (pullD (α := Int) (m_83 [.list 3 [iD r1, iD r3, iD r5]]) (fun d => ((D.vi d))) (fun r6 => iD r6) fun r6 => (some (iD r6)))) else (if pe > (10000 : Int) then pullD (α := Int) (m_102 [.list 1 [iD pe, iD pf]]) (fun d => ((D.vi d))) (fun r7 => iD r7) fun r7 => (pullD (α := Int) (m_83 [.list 2 [iD (2 : Int), iD r7]]) (fun d => ((D.vi d))) (fun r8 => iD r8) fun r8 => (pullD (α := Int) (m_83 [.list 3 [iD r1, iD r3, iD r8]]) (fun d => ((D.vi d))) (fun r9 => iD r9) fun r9 => (some (iD r9)))) else (if pf < (0 : Int) then pullD (α := Int) (m_102 [.list 1 [iD pe, iD pf]]) (fun d => ((D.vi d))) (fun r10 => iD r10) fun r10 => (pullD (α := Int) (m_83 [.list 2 [iD (2 : Int), iD r10]]) (fun d => ((D.vi d))) (fun r11 => iD r11) fun r11 => (pullD (α := Int) (m_83 [.list 3 [iD r1, iD r3, iD r11]]) (fun d => ((D.vi d))) (fun r12 => iD r12) fun r12 => (some (iD r12)))) else (if pf > (10000 : Int) then pullD (α := Int) (m_102 [.list 1 [iD pe, iD pf]]) (fun d => ((D.vi d))) (fun r13 => iD r13) fun r13 => (pullD (α := Int) (m_83 [.list 2 [iD (2 : Int), iD r13]]) (fun d => ((D.vi d))) (fun r14 => iD r14) fun r14 => (pullD (α := Int) (m_83 [.list 3 [iD r1, iD r3, iD r14]]) (fun d => ((D.vi d))) (fun r15 => iD r15) fun r15 => (some (iD r15)))) else pullD (α := Int) (m_102 [.list 1 [iD pe, iD pf]]) (fun d => ((D.vi d))) (fun r16 => iD r16) fun r16 => (pullD (α := Int) (m_83 [.list 2 [iD (0 : Int), iD r16]]) (fun d => ((D.vi d))) (fun r17 => iD r17) fun r17 => (pullD (α := Int) (m_83 [.list 3 [iD r1, iD r3, iD r17]]) (fun d => ((D.vi d))) (fun r18 => iD r18) fun r18 => (some (iD r18))))))))))
def chkClamp_M_s1 (pa pb pc pd pe pf : Int) (r0 : Int) (r1 : Int) : Option D := (if pc > (1000 : Int) then pullD (α := Int) (m_102 [.list 1 [iD pc, iD pd]]) (fun d => ((D.vi d))) (fun r19 => iD r19) fun r19 => (pullD (α := Int) (m_83 [.list 2 [iD (2 : Int), iD r19]]) (fun d => ((D.vi d))) (fun r20 => iD r20) fun r20 => ((if pe < (0 : Int) then pullD (α := Int) (m_102 [.list 1 [iD pe, iD pf]]) (fun d => ((D.vi d))) (fun r21 => iD r21) fun r21 => (pullD (α := Int) (m_83 [.list 2 [iD (2 : Int), iD r21]]) (fun d => ((D.vi d))) (fun r22 => iD r22) fun r22 => (pullD (α := Int) (m_83 [.list 3 [iD r1, iD r20, iD r22]]) (fun d => ((D.vi d))) (fun r23 => iD r23) fun r23 => (some (iD r23)))) else (if pe > (10000 : Int) then pullD (α := Int) (m_102 [.list 1 [iD pe, iD pf]]) (fun d => ((D.vi d))) (fun r24 => iD r24) fun r24 => (pullD (α := Int) (m_83 [.list 2 [iD (2 : Int), iD r24]]) (fun d => ((D.vi d))) (fun r25 => iD r25) fun r25 => (pullD (α := Int) (m_83 [.list 3 [iD r1, iD r20, iD r25]]) (fun d => ((D.vi d))) (fun r26 => iD r26) fun r26 => (some (iD r26)))) else (if pf < (0 : Int) then pullD (α := Int) (m_102 [.list 1 [iD pe, iD pf]]) (fun d => ((D.vi d))) (fun r27 => iD r27) fun r27 => (pullD (α := Int) (m_83 [.list 2 [iD (2 : Int), iD r27]]) (fun d => ((D.vi d))) (fun r28 => iD r28) fun r28 => (pullD (α := Int) (m_83 [.list 3 [iD r1, iD r20, iD r28]]) (fun d => ((D.vi d))) (fun r29 => iD r29) fun r29 => (some (iD r29)))) else (if pf > (10000 : Int) then pullD (α := Int) (m_102 [.list 1 [iD pe, iD pf]]) (fun d => ((D.vi d))) (fun r30 => iD r30) fun r30 => (pullD (α := Int) (m_83 [.list 2 [iD (2 : Int), iD r30]]) (fun d => ((D.vi d))) (fun r31 => iD r31) fun r31 => (pullD (α := Int) (m_83 [.list 3 [iD r1, iD r20, iD r31]]) (fun d => ((D.vi d))) (fun r32 => iD r32) fun r32 => (some (iD r32)))) else pullD (α := Int) (m_102 [.list 1 [iD pe, iD pf]]) (fun d => ((D.vi d))) (fun r33 => iD r33) fun r33 => (pullD (α := Int) (m_83 [.list 2 [iD (0 : Int), iD r33]]) (fun d => ((D.vi d))) (fun r34 => iD r34) fun r34 => (pullD (α := Int) (m_83 [.list 3 [iD r1, iD r20, iD r34]]) (fun d => ((D.vi d))) (fun r35 => iD r35) fun r35 => (some (iD r35)))))))))) else (if pd < (0 : Int) then pullD (α := Int) (m_102 [.list 1 [iD pc, iD pd]]) (fun d => ((D.vi d))) (fun r36 => iD r36) fun r36 => (pullD (α := Int) (m_83 [.list 2 [iD (2 : Int), iD r36]]) (fun d => ((D.vi d))) (fun r37 => iD r37) fun r37 => ((if pe < (0 : Int) then pullD (α := Int) (m_102 [.list 1 [iD pe, iD pf]]) (fun d => ((D.vi d))) (fun r38 => iD r38) fun r38 => (pullD (α := Int) (m_83 [.list 2 [iD (2 : Int), iD r38]]) (fun d => ((D.vi d))) (fun r39 => iD r39) fun r39 => (pullD (α := Int) (m_83 [.list 3 [iD r1, iD r37, iD r39]]) (fun d => ((D.vi d))) (fun r40 => iD r40) fun r40 => (some (iD r40)))) else (if pe > (10000 : Int) then pullD (α := Int) (m_102 [.list 1 [iD pe, iD pf]]) (fun d => ((D.vi d))) (fun r41 => iD r41) fun r41 => (pullD (α := Int) (m_83 [.list 2 [iD (2 : Int), iD r41]]) (fun d => ((D.vi d))) (fun r42 => iD r42) fun r42 => (pullD (α := Int) (m_83 [.list 3 [iD r1, iD r37, iD r42]]) (fun d => ((D.vi d))) (fun r43 => iD r43) fun r43 => (some (iD r43)))) else (if pf < (0 : Int) then pullD (α := Int) (m_102 [.list 1 [iD pe, iD pf]]) (fun d => ((D.vi d))) (fun r44 => iD r44) fun r44 => (pullD (α := Int) (m_83 [.list 2 [iD (2 : Int), iD r44]]) (fun d => ((D.vi d))) (fun r45 => iD r45) fun r45 => (pullD (α := Int) (m_83 [.list 3 [iD r1, iD r37, iD r45]]) (fun d => ((D.vi d))) (fun r46 => iD r46) fun r46 => (some (iD r46)))) else (if pf > (10000 : Int) then pullD (α := Int) (m_102 [.list 1 [iD pe, iD pf]]) (fun d => ((D.vi d))) (fun r47 => iD r47) fun r47 => (pullD (α := Int) (m_83 [.list 2 [iD (2 : Int), iD r47]]) (fun d => ((D.vi d))) (fun r48 => iD r48) fun r48 => (pullD (α := Int) (m_83 [.list 3 [iD r1, iD r37, iD r48]]) (fun d => ((D.vi d))) (fun r49 => iD r49) fun r49 => (some (iD r49)))) else pullD (α := Int) (m_102 [.list 1 [iD pe, iD pf]]) (fun d => ((D.vi d))) (fun r50 => iD r50) fun r50 => (pullD (α := Int) (m_83 [.list 2 [iD (0 : Int), iD r50]]) (fun d => ((D.vi d))) (fun r51 => iD r51) fun r51 => (pullD (α := Int) (m_83 [.list 3 [iD r1, iD r37, iD r51]]) (fun d => ((D.vi d))) (fun r52 => iD r52) fun r52 => (some (iD r52)))))))))) else (if pd > (1000 : Int) then pullD (α := Int) (m_102 [.list 1 [iD pc, iD pd]]) (fun d => ((D.vi d))) (fun r53 => iD r53) fun r53 => (pullD (α := Int) (m_83 [.list 2 [iD (2 : Int), iD r53]]) (fun d => ((D.vi d))) (fun r54 => iD r54) fun r54 => ((if pe < (0 : Int) then pullD (α := Int) (m_102 [.list 1 [iD pe, iD pf]]) (fun d => ((D.vi d))) (fun r55 => iD r55) fun r55 => (pullD (α := Int) (m_83 [.list 2 [iD (2 : Int), iD r55]]) (fun d => ((D.vi d))) (fun r56 => iD r56) fun r56 => (pullD (α := Int) (m_83 [.list 3 [iD r1, iD r54, iD r56]]) (fun d => ((D.vi d))) (fun r57 => iD r57) fun r57 => (some (iD r57)))) else (if pe > (10000 : Int) then pullD (α := Int) (m_102 [.list 1 [iD pe, iD pf]]) (fun d => ((D.vi d))) (fun r58 => iD r58) fun r58 => (pullD (α := Int) (m_83 [.list 2 [iD (2 : Int), iD r58]]) (fun d => ((D.vi d))) (fun r59 => iD r59) fun r59 => (pullD (α := Int) (m_83 [.list 3 [iD r1, iD r54, iD r59]]) (fun d => ((D.vi d))) (fun r60 => iD r60) fun r60 => (some (iD r60)))) else (if pf < (0 : Int) then pullD (α := Int) (m_102 [.list 1 [iD pe, iD pf]]) (fun d => ((D.vi d))) (fun r61 => iD r61) fun r61 => (pullD (α := Int) (m_83 [.list 2 [iD (2 : Int), iD r61]]) (fun d => ((D.vi d))) (fun r62 => iD r62) fun r62 => (pullD (α := Int) (m_83 [.list 3 [iD r1, iD r54, iD r62]]) (fun d => ((D.vi d))) (fun r63 => iD r63) fun r63 => (some (iD r63)))) else (if pf > (10000 : Int) then pullD (α := Int) (m_102 [.list 1 [iD pe, iD pf]]) (fun d => ((D.vi d))) (fun r64 => iD r64) fun r64 => (pullD (α := Int) (m_83 [.list 2 [iD (2 : Int), iD r64]]) (fun d => ((D.vi d))) (fun r65 => iD r65) fun r65 => (pullD (α := Int) (m_83 [.list 3 [iD r1, iD r54, iD r65]]) (fun d => ((D.vi d))) (fun r66 => iD r66) fun r66 => (some (iD r66)))) else pullD (α := Int) (m_102 [.list 1 [iD pe, iD pf]]) (fun d => ((D.vi d))) (fun r67 => iD r67) fun r67 => (pullD (α := Int) (m_83 [.list 2 [iD (0 : Int), iD r67]]) (fun d => ((D.vi d))) (fun r68 => iD r68) fun r68 => (pullD (α := Int) (m_83 [.list 3 [iD r1, iD r54, iD r68]]) (fun d => ((D.vi d))) (fun r69 => iD r69) fun r69 => (some (iD r69)))))))))) else pullD (α := Int) (m_102 [.list 1 [iD pc, iD pd]]) (fun d => ((D.vi d))) (fun r70 => iD r70) fun r70 => (pullD (α := Int) (m_83 [.list 2 [iD (0 : Int), iD r70]]) (fun d => ((D.vi d))) (fun r71 => iD r71) fun r71 => ((if pe < (0 : Int) then pullD (α := Int) (m_102 [.list 1 [iD pe, iD pf]]) (fun d => ((D.vi d))) (fun r72 => iD r72) fun r72 => (pullD (α := Int) (m_83 [.list 2 [iD (2 : Int), iD r72]]) (fun d => ((D.vi d))) (fun r73 => iD r73) fun r73 => (pullD (α := Int) (m_83 [.list 3 [iD r1, iD r71, iD r73]]) (fun d => ((D.vi d))) (fun r74 => iD r74) fun r74 => (some (iD r74)))) else (if pe > (10000 : Int) then pullD (α := Int) (m_102 [.list 1 [iD pe, iD pf]]) (fun d => ((D.vi d))) (fun r75 => iD r75) fun r75 => (pullD (α := Int) (m_83 [.list 2 [iD (2 : Int), iD r75]]) (fun d => ((D.vi d))) (fun r76 => iD r76) fun r76 => (pullD (α := Int) (m_83 [.list 3 [iD r1, iD r71, iD r76]]) (fun d => ((D.vi d))) (fun r77 => iD r77) fun r77 => (some (iD r77)))) else (if pf < (0 : Int) then pullD (α := Int) (m_102 [.list 1 [iD pe, iD pf]]) (fun d => ((D.vi d))) (fun r78 => iD r78) fun r78 => (pullD (α := Int) (m_83 [.list 2 [iD (2 : Int), iD r78]]) (fun d => ((D.vi d))) (fun r79 => iD r79) fun r79 => (pullD (α := Int) (m_83 [.list 3 [iD r1, iD r71, iD r79]]) (fun d => ((D.vi d))) (fun r80 => iD r80) fun r80 => (some (iD r80)))) else (if pf > (10000 : Int) then pullD (α := Int) (m_102 [.list 1 [iD pe, iD pf]]) (fun d => ((D.vi d))) (fun r81 => iD r81) fun r81 => (pullD (α := Int) (m_83 [.list 2 [iD (2 : Int), iD r81]]) (fun d => ((D.vi d))) (fun r82 => iD r82) fun r82 => (pullD (α := Int) (m_83 [.list 3 [iD r1, iD r71, iD r82]]) (fun d => ((D.vi d))) (fun r83 => iD r83) fun r83 => (some (iD r83)))) else pullD (α := Int) (m_102 [.list 1 [iD pe, iD pf]]) (fun d => ((D.vi d))) (fun r84 => iD r84) fun r84 => (pullD (α := Int) (m_83 [.list 2 [iD (0 : Int), iD r84]]) (fun d => ((D.vi d))) (fun r85 => iD r85) fun r85 => (pullD (α := Int) (m_83 [.list 3 [iD r1, iD r71, iD r85]]) (fun d => ((D.vi d))) (fun r86 => iD r86) fun r86 => (some (iD r86)))))))))))))
def chkClamp_M_s2 (pa pb pc pd pe pf : Int) (r87 : Int) (r88 : Int) : Option D := pullD (α := Int) (m_102 [.list 1 [iD pc, iD pd]]) (fun d => ((D.vi d))) (fun r89 => iD r89) fun r89 => (pullD (α := Int) (m_83 [.list 2 [iD (2 : Int), iD r89]]) (fun d => ((D.vi d))) (fun r90 => iD r90) fun r90 => ((if pe < (0 : Int) then pullD (α := Int) (m_102 [.list 1 [iD pe, iD pf]]) (fun d => ((D.vi d))) (fun r91 => iD r91) fun r91 => (pullD (α := Int) (m_83 [.list 2 [iD (2 : Int), iD r91]]) (fun d => ((D.vi d))) (fun r92 => iD r92) fun r92 => (pullD (α := Int) (m_83 [.list 3 [iD r88, iD r90, iD r92]]) (fun d => ((D.vi d))) (fun r93 => iD r93) fun r93 => (some (iD r93)))) else (if pe > (10000 : Int) then pullD (α := Int) (m_102 [.list 1 [iD pe, iD pf]]) (fun d => ((D.vi d))) (fun r94 => iD r94) fun r94 => (pullD (α := Int) (m_83 [.list 2 [iD (2 : Int), iD r94]]) (fun d => ((D.vi d))) (fun r95 => iD r95) fun r95 => (pullD (α := Int) (m_83 [.list 3 [iD r88, iD r90, iD r95]]) (fun d => ((D.vi d))) (fun r96 => iD r96) fun r96 => (some (iD r96)))) else (if pf < (0 : Int) then pullD (α := Int) (m_102 [.list 1 [iD pe, iD pf]]) (fun d => ((D.vi d))) (fun r97 => iD r97) fun r97 => (pullD (α := Int) (m_83 [.list 2 [iD (2 : Int), iD r97]]) (fun d => ((D.vi d))) (fun r98 => iD r98) fun r98 => (pullD (α := Int) (m_83 [.list 3 [iD r88, iD r90, iD r98]]) (fun d => ((D.vi d))) (fun r99 => iD r99) fun r99 => (some (iD r99)))) else (if pf > (10000 : Int) then pullD (α := Int) (m_102 [.list 1 [iD pe, iD pf]]) (fun d => ((D.vi d))) (fun r100 => iD r100) fun r100 => (pullD (α := Int) (m_83 [.list 2 [iD (2 : Int), iD r100]]) (fun d => ((D.vi d))) (fun r101 => iD r101) fun r101 => (pullD (α := Int) (m_83 [.list 3 [iD r88, iD r90, iD r101]]) (fun d => ((D.vi d))) (fun r102 => iD r102) fun r102 => (some (iD r102)))) else pullD (α := Int) (m_102 [.list 1 [iD pe, iD pf]]) (fun d => ((D.vi d))) (fun r103 => iD r103) fun r103 => (pullD (α := Int) (m_83 [.list 2 [iD (0 : Int), iD r103]]) (fun d => ((D.vi d))) (fun r104 => iD r104) fun r104 => (pullD (α := Int) (m_83 [.list 3 [iD r88, iD r90, iD r104]]) (fun d => ((D.vi d))) (fun r105 => iD r105) fun r105 => (some (iD r105))))))))))
def chkClamp_M_s3 (pa pb pc pd pe pf : Int) (r87 : Int) (r88 : Int) : Option D := (if pc > (1000 : Int) then pullD (α := Int) (m_102 [.list 1 [iD pc, iD pd]]) (fun d => ((D.vi d))) (fun r106 => iD r106) fun r106 => (pullD (α := Int) (m_83 [.list 2 [iD (2 : Int), iD r106]]) (fun d => ((D.vi d))) (fun r107 => iD r107) fun r107 => ((if pe < (0 : Int) then pullD (α := Int) (m_102 [.list 1 [iD pe, iD pf]]) (fun d => ((D.vi d))) (fun r108 => iD r108) fun r108 => (pullD (α := Int) (m_83 [.list 2 [iD (2 : Int), iD r108]]) (fun d => ((D.vi d))) (fun r109 => iD r109) fun r109 => (pullD (α := Int) (m_83 [.list 3 [iD r88, iD r107, iD r109]]) (fun d => ((D.vi d))) (fun r110 => iD r110) fun r110 => (some (iD r110)))) else (if pe > (10000 : Int) then pullD (α := Int) (m_102 [.list 1 [iD pe, iD pf]]) (fun d => ((D.vi d))) (fun r111 => iD r111) fun r111 => (pullD (α := Int) (m_83 [.list 2 [iD (2 : Int), iD r111]]) (fun d => ((D.vi d))) (fun r112 => iD r112) fun r112 => (pullD (α := Int) (m_83 [.list 3 [iD r88, iD r107, iD r112]]) (fun d => ((D.vi d))) (fun r113 => iD r113) fun r113 => (some (iD r113)))) else (if pf < (0 : Int) then pullD (α := Int) (m_102 [.list 1 [iD pe, iD pf]]) (fun d => ((D.vi d))) (fun r114 => iD r114) fun r114 => (pullD (α := Int) (m_83 [.list 2 [iD (2 : Int), iD r114]]) (fun d => ((D.vi d))) (fun r115 => iD r115) fun r115 => (pullD (α := Int) (m_83 [.list 3 [iD r88, iD r107, iD r115]]) (fun d => ((D.vi d))) (fun r116 => iD r116) fun r116 => (some (iD r116)))) else (if pf > (10000 : Int) then pullD (α := Int) (m_102 [.list 1 [iD pe, iD pf]]) (fun d => ((D.vi d))) (fun r117 => iD r117) fun r117 => (pullD (α := Int) (m_83 [.list 2 [iD (2 : Int), iD r117]]) (fun d => ((D.vi d))) (fun r118 => iD r118) fun r118 => (pullD (α := Int) (m_83 [.list 3 [iD r88, iD r107, iD r118]]) (fun d => ((D.vi d))) (fun r119 => iD r119) fun r119 => (some (iD r119)))) else pullD (α := Int) (m_102 [.list 1 [iD pe, iD pf]]) (fun d => ((D.vi d))) (fun r120 => iD r120) fun r120 => (pullD (α := Int) (m_83 [.list 2 [iD (0 : Int), iD r120]]) (fun d => ((D.vi d))) (fun r121 => iD r121) fun r121 => (pullD (α := Int) (m_83 [.list 3 [iD r88, iD r107, iD r121]]) (fun d => ((D.vi d))) (fun r122 => iD r122) fun r122 => (some (iD r122)))))))))) else (if pd < (0 : Int) then pullD (α := Int) (m_102 [.list 1 [iD pc, iD pd]]) (fun d => ((D.vi d))) (fun r123 => iD r123) fun r123 => (pullD (α := Int) (m_83 [.list 2 [iD (2 : Int), iD r123]]) (fun d => ((D.vi d))) (fun r124 => iD r124) fun r124 => ((if pe < (0 : Int) then pullD (α := Int) (m_102 [.list 1 [iD pe, iD pf]]) (fun d => ((D.vi d))) (fun r125 => iD r125) fun r125 => (pullD (α := Int) (m_83 [.list 2 [iD (2 : Int), iD r125]]) (fun d => ((D.vi d))) (fun r126 => iD r126) fun r126 => (pullD (α := Int) (m_83 [.list 3 [iD r88, iD r124, iD r126]]) (fun d => ((D.vi d))) (fun r127 => iD r127) fun r127 => (some (iD r127)))) else (if pe > (10000 : Int) then pullD (α := Int) (m_102 [.list 1 [iD pe, iD pf]]) (fun d => ((D.vi d))) (fun r128 => iD r128) fun r128 => (pullD (α := Int) (m_83 [.list 2 [iD (2 : Int), iD r128]]) (fun d => ((D.vi d))) (fun r129 => iD r129) fun r129 => (pullD (α := Int) (m_83 [.list 3 [iD r88, iD r124, iD r129]]) (fun d => ((D.vi d))) (fun r130 => iD r130) fun r130 => (some (iD r130)))) else (if pf < (0 : Int) then pullD (α := Int) (m_102 [.list 1 [iD pe, iD pf]]) (fun d => ((D.vi d))) (fun r131 => iD r131) fun r131 => (pullD (α := Int) (m_83 [.list 2 [iD (2 : Int), iD r131]]) (fun d => ((D.vi d))) (fun r132 => iD r132) fun r132 => (pullD (α := Int) (m_83 [.list 3 [iD r88, iD r124, iD r132]]) (fun d => ((D.vi d))) (fun r133 => iD r133) fun r133 => (some (iD r133)))) else (if pf > (10000 : Int) then pullD (α := Int) (m_102 [.list 1 [iD pe, iD pf]]) (fun d => ((D.vi d))) (fun r134 => iD r134) fun r134 => (pullD (α := Int) (m_83 [.list 2 [iD (2 : Int), iD r134]]) (fun d => ((D.vi d))) (fun r135 => iD r135) fun r135 => (pullD (α := Int) (m_83 [.list 3 [iD r88, iD r124, iD r135]]) (fun d => ((D.vi d))) (fun r136 => iD r136) fun r136 => (some (iD r136)))) else pullD (α := Int) (m_102 [.list 1 [iD pe, iD pf]]) (fun d => ((D.vi d))) (fun r137 => iD r137) fun r137 => (pullD (α := Int) (m_83 [.list 2 [iD (0 : Int), iD r137]]) (fun d => ((D.vi d))) (fun r138 => iD r138) fun r138 => (pullD (α := Int) (m_83 [.list 3 [iD r88, iD r124, iD r138]]) (fun d => ((D.vi d))) (fun r139 => iD r139) fun r139 => (some (iD r139)))))))))) else (if pd > (1000 : Int) then pullD (α := Int) (m_102 [.list 1 [iD pc, iD pd]]) (fun d => ((D.vi d))) (fun r140 => iD r140) fun r140 => (pullD (α := Int) (m_83 [.list 2 [iD (2 : Int), iD r140]]) (fun d => ((D.vi d))) (fun r141 => iD r141) fun r141 => ((if pe < (0 : Int) then pullD (α := Int) (m_102 [.list 1 [iD pe, iD pf]]) (fun d => ((D.vi d))) (fun r142 => iD r142) fun r142 => (pullD (α := Int) (m_83 [.list 2 [iD (2 : Int), iD r142]]) (fun d => ((D.vi d))) (fun r143 => iD r143) fun r143 => (pullD (α := Int) (m_83 [.list 3 [iD r88, iD r141, iD r143]]) (fun d => ((D.vi d))) (fun r144 => iD r144) fun r144 => (some (iD r144)))) else (if pe > (10000 : Int) then pullD (α := Int) (m_102 [.list 1 [iD pe, iD pf]]) (fun d => ((D.vi d))) (fun r145 => iD r145) fun r145 => (pullD (α := Int) (m_83 [.list 2 [iD (2 : Int), iD r145]]) (fun d => ((D.vi d))) (fun r146 => iD r146) fun r146 => (pullD (α := Int) (m_83 [.list 3 [iD r88, iD r141, iD r146]]) (fun d => ((D.vi d))) (fun r147 => iD r147) fun r147 => (some (iD r147)))) else (if pf < (0 : Int) then pullD (α := Int) (m_102 [.list 1 [iD pe, iD pf]]) (fun d => ((D.vi d))) (fun r148 => iD r148) fun r148 => (pullD (α := Int) (m_83 [.list 2 [iD (2 : Int), iD r148]]) (fun d => ((D.vi d))) (fun r149 => iD r149) fun r149 => (pullD (α := Int) (m_83 [.list 3 [iD r88, iD r141, iD r149]]) (fun d => ((D.vi d))) (fun r150 => iD r150) fun r150 => (some (iD r150)))) else (if pf > (10000 : Int) then pullD (α := Int) (m_102 [.list 1 [iD pe, iD pf]]) (fun d => ((D.vi d))) (fun r151 => iD r151) fun r151 => (pullD (α := Int) (m_83 [.list 2 [iD (2 : Int), iD r151]]) (fun d => ((D.vi d))) (fun r152 => iD r152) fun r152 => (pullD (α := Int) (m_83 [.list 3 [iD r88, iD r141, iD r152]]) (fun d => ((D.vi d))) (fun r153 => iD r153) fun r153 => (some (iD r153)))) else pullD (α := Int) (m_102 [.list 1 [iD pe, iD pf]]) (fun d => ((D.vi d))) (fun r154 => iD r154) fun r154 => (pullD (α := Int) (m_83 [.list 2 [iD (0 : Int), iD r154]]) (fun d => ((D.vi d))) (fun r155 => iD r155) fun r155 => (pullD (α := Int) (m_83 [.list 3 [iD r88, iD r141, iD r155]]) (fun d => ((D.vi d))) (fun r156 => iD r156) fun r156 => (some (iD r156)))))))))) else pullD (α := Int) (m_102 [.list 1 [iD pc, iD pd]]) (fun d => ((D.vi d))) (fun r157 => iD r157) fun r157 => (pullD (α := Int) (m_83 [.list 2 [iD (0 : Int), iD r157]]) (fun d => ((D.vi d))) (fun r158 => iD r158) fun r158 => ((if pe < (0 : Int) then pullD (α := Int) (m_102 [.list 1 [iD pe, iD pf]]) (fun d => ((D.vi d))) (fun r159 => iD r159) fun r159 => (pullD (α := Int) (m_83 [.list 2 [iD (2 : Int), iD r159]]) (fun d => ((D.vi d))) (fun r160 => iD r160) fun r160 => (pullD (α := Int) (m_83 [.list 3 [iD r88, iD r158, iD r160]]) (fun d => ((D.vi d))) (fun r161 => iD r161) fun r161 => (some (iD r161)))) else (if pe > (10000 : Int) then pullD (α := Int) (m_102 [.list 1 [iD pe, iD pf]]) (fun d => ((D.vi d))) (fun r162 => iD r162) fun r162 => (pullD (α := Int) (m_83 [.list 2 [iD (2 : Int), iD r162]]) (fun d => ((D.vi d))) (fun r163 => iD r163) fun r163 => (pullD (α := Int) (m_83 [.list 3 [iD r88, iD r158, iD r163]]) (fun d => ((D.vi d))) (fun r164 => iD r164) fun r164 => (some (iD r164)))) else (if pf < (0 : Int) then pullD (α := Int) (m_102 [.list 1 [iD pe, iD pf]]) (fun d => ((D.vi d))) (fun r165 => iD r165) fun r165 => (pullD (α := Int) (m_83 [.list 2 [iD (2 : Int), iD r165]]) (fun d => ((D.vi d))) (fun r166 => iD r166) fun r166 => (pullD (α := Int) (m_83 [.list 3 [iD r88, iD r158, iD r166]]) (fun d => ((D.vi d))) (fun r167 => iD r167) fun r167 => (some (iD r167)))) else (if pf > (10000 : Int) then pullD (α := Int) (m_102 [.list 1 [iD pe, iD pf]]) (fun d => ((D.vi d))) (fun r168 => iD r168) fun r168 => (pullD (α := Int) (m_83 [.list 2 [iD (2 : Int), iD r168]]) (fun d => ((D.vi d))) (fun r169 => iD r169) fun r169 => (pullD (α := Int) (m_83 [.list 3 [iD r88, iD r158, iD r169]]) (fun d => ((D.vi d))) (fun r170 => iD r170) fun r170 => (some (iD r170)))) else pullD (α := Int) (m_102 [.list 1 [iD pe, iD pf]]) (fun d => ((D.vi d))) (fun r171 => iD r171) fun r171 => (pullD (α := Int) (m_83 [.list 2 [iD (0 : Int), iD r171]]) (fun d => ((D.vi d))) (fun r172 => iD r172) fun r172 => (pullD (α := Int) (m_83 [.list 3 [iD r88, iD r158, iD r172]]) (fun d => ((D.vi d))) (fun r173 => iD r173) fun r173 => (some (iD r173)))))))))))))
def chkClamp_M_s4 (pa pb pc pd pe pf : Int) (r174 : Int) (r175 : Int) : Option D := pullD (α := Int) (m_102 [.list 1 [iD pc, iD pd]]) (fun d => ((D.vi d))) (fun r176 => iD r176) fun r176 => (pullD (α := Int) (m_83 [.list 2 [iD (2 : Int), iD r176]]) (fun d => ((D.vi d))) (fun r177 => iD r177) fun r177 => ((if pe < (0 : Int) then pullD (α := Int) (m_102 [.list 1 [iD pe, iD pf]]) (fun d => ((D.vi d))) (fun r178 => iD r178) fun r178 => (pullD (α := Int) (m_83 [.list 2 [iD (2 : Int), iD r178]]) (fun d => ((D.vi d))) (fun r179 => iD r179) fun r179 => (pullD (α := Int) (m_83 [.list 3 [iD r175, iD r177, iD r179]]) (fun d => ((D.vi d))) (fun r180 => iD r180) fun r180 => (some (iD r180)))) else (if pe > (10000 : Int) then pullD (α := Int) (m_102 [.list 1 [iD pe, iD pf]]) (fun d => ((D.vi d))) (fun r181 => iD r181) fun r181 => (pullD (α := Int) (m_83 [.list 2 [iD (2 : Int), iD r181]]) (fun d => ((D.vi d))) (fun r182 => iD r182) fun r182 => (pullD (α := Int) (m_83 [.list 3 [iD r175, iD r177, iD r182]]) (fun d => ((D.vi d))) (fun r183 => iD r183) fun r183 => (some (iD r183)))) else (if pf < (0 : Int) then pullD (α := Int) (m_102 [.list 1 [iD pe, iD pf]]) (fun d => ((D.vi d))) (fun r184 => iD r184) fun r184 => (pullD (α := Int) (m_83 [.list 2 [iD (2 : Int), iD r184]]) (fun d => ((D.vi d))) (fun r185 => iD r185) fun r185 => (pullD (α := Int) (m_83 [.list 3 [iD r175, iD r177, iD r185]]) (fun d => ((D.vi d))) (fun r186 => iD r186) fun r186 => (some (iD r186)))) else (if pf > (10000 : Int) then pullD (α := Int) (m_102 [.list 1 [iD pe, iD pf]]) (fun d => ((D.vi d))) (fun r187 => iD r187) fun r187 => (pullD (α := Int) (m_83 [.list 2 [iD (2 : Int), iD r187]]) (fun d => ((D.vi d))) (fun r188 => iD r188) fun r188 => (pullD (α := Int) (m_83 [.list 3 [iD r175, iD r177, iD r188]]) (fun d => ((D.vi d))) (fun r189 => iD r189) fun r189 => (some (iD r189)))) else pullD (α := Int) (m_102 [.list 1 [iD pe, iD pf]]) (fun d => ((D.vi d))) (fun r190 => iD r190) fun r190 => (pullD (α := Int) (m_83 [.list 2 [iD (0 : Int), iD r190]]) (fun d => ((D.vi d))) (fun r191 => iD r191) fun r191 => (pullD (α := Int) (m_83 [.list 3 [iD r175, iD r177, iD r191]]) (fun d => ((D.vi d))) (fun r192 => iD r192) fun r192 => (some (iD r192))))))))))
def chkClamp_M_s5 (pa pb pc pd pe pf : Int) (r174 : Int) (r175 : Int) : Option D := (if pc > (1000 : Int) then pullD (α := Int) (m_102 [.list 1 [iD pc, iD pd]]) (fun d => ((D.vi d))) (fun r193 => iD r193) fun r193 => (pullD (α := Int) (m_83 [.list 2 [iD (2 : Int), iD r193]]) (fun d => ((D.vi d))) (fun r194 => iD r194) fun r194 => ((if pe < (0 : Int) then pullD (α := Int) (m_102 [.list 1 [iD pe, iD pf]]) (fun d => ((D.vi d))) (fun r195 => iD r195) fun r195 => (pullD (α := Int) (m_83 [.list 2 [iD (2 : Int), iD r195]]) (fun d => ((D.vi d))) (fun r196 => iD r196) fun r196 => (pullD (α := Int) (m_83 [.list 3 [iD r175, iD r194, iD r196]]) (fun d => ((D.vi d))) (fun r197 => iD r197) fun r197 => (some (iD r197)))) else (if pe > (10000 : Int) then pullD (α := Int) (m_102 [.list 1 [iD pe, iD pf]]) (fun d => ((D.vi d))) (fun r198 => iD r198) fun r198 => (pullD (α := Int) (m_83 [.list 2 [iD (2 : Int), iD r198]]) (fun d => ((D.vi d))) (fun r199 => iD r199) fun r199 => (pullD (α := Int) (m_83 [.list 3 [iD r175, iD r194, iD r199]]) (fun d => ((D.vi d))) (fun r200 => iD r200) fun r200 => (some (iD r200)))) else (if pf < (0 : Int) then pullD (α := Int) (m_102 [.list 1 [iD pe, iD pf]]) (fun d => ((D.vi d))) (fun r201 => iD r201) fun r201 => (pullD (α := Int) (m_83 [.list 2 [iD (2 : Int), iD r201]]) (fun d => ((D.vi d))) (fun r202 => iD r202) fun r202 => (pullD (α := Int) (m_83 [.list 3 [iD r175, iD r194, iD r202]]) (fun d => ((D.vi d))) (fun r203 => iD r203) fun r203 => (some (iD r203)))) else (if pf > (10000 : Int) then pullD (α := Int) (m_102 [.list 1 [iD pe, iD pf]]) (fun d => ((D.vi d))) (fun r204 => iD r204) fun r204 => (pullD (α := Int) (m_83 [.list 2 [iD (2 : Int), iD r204]]) (fun d => ((D.vi d))) (fun r205 => iD r205) fun r205 => (pullD (α := Int) (m_83 [.list 3 [iD r175, iD r194, iD r205]]) (fun d => ((D.vi d))) (fun r206 => iD r206) fun r206 => (some (iD r206)))) else pullD (α := Int) (m_102 [.list 1 [iD pe, iD pf]]) (fun d => ((D.vi d))) (fun r207 => iD r207) fun r207 => (pullD (α := Int) (m_83 [.list 2 [iD (0 : Int), iD r207]]) (fun d => ((D.vi d))) (fun r208 => iD r208) fun r208 => (pullD (α := Int) (m_83 [.list 3 [iD r175, iD r194, iD r208]]) (fun d => ((D.vi d))) (fun r209 => iD r209) fun r209 => (some (iD r209)))))))))) else (if pd < (0 : Int) then pullD (α := Int) (m_102 [.list 1 [iD pc, iD pd]]) (fun d => ((D.vi d))) (fun r210 => iD r210) fun r210 => (pullD (α := Int) (m_83 [.list 2 [iD (2 : Int), iD r210]]) (fun d => ((D.vi d))) (fun r211 => iD r211) fun r211 => ((if pe < (0 : Int) then pullD (α := Int) (m_102 [.list 1 [iD pe, iD pf]]) (fun d => ((D.vi d))) (fun r212 => iD r212) fun r212 => (pullD (α := Int) (m_83 [.list 2 [iD (2 : Int), iD r212]]) (fun d => ((D.vi d))) (fun r213 => iD r213) fun r213 => (pullD (α := Int) (m_83 [.list 3 [iD r175, iD r211, iD r213]]) (fun d => ((D.vi d))) (fun r214 => iD r214) fun r214 => (some (iD r214)))) else (if pe > (10000 : Int) then pullD (α := Int) (m_102 [.list 1 [iD pe, iD pf]]) (fun d => ((D.vi d))) (fun r215 => iD r215) fun r215 => (pullD (α := Int) (m_83 [.list 2 [iD (2 : Int), iD r215]]) (fun d => ((D.vi d))) (fun r216 => iD r216) fun r216 => (pullD (α := Int) (m_83 [.list 3 [iD r175, iD r211, iD r216]]) (fun d => ((D.vi d))) (fun r217 => iD r217) fun r217 => (some (iD r217)))) else (if pf < (0 : Int) then pullD (α := Int) (m_102 [.list 1 [iD pe, iD pf]]) (fun d => ((D.vi d))) (fun r218 => iD r218) fun r218 => (pullD (α := Int) (m_83 [.list 2 [iD (2 : Int), iD r218]]) (fun d => ((D.vi d))) (fun r219 => iD r219) fun r219 => (pullD (α := Int) (m_83 [.list 3 [iD r175, iD r211, iD r219]]) (fun d => ((D.vi d))) (fun r220 => iD r220) fun r220 => (some (iD r220)))) else (if pf > (10000 : Int) then pullD (α := Int) (m_102 [.list 1 [iD pe, iD pf]]) (fun d => ((D.vi d))) (fun r221 => iD r221) fun r221 => (pullD (α := Int) (m_83 [.list 2 [iD (2 : Int), iD r221]]) (fun d => ((D.vi d))) (fun r222 => iD r222) fun r222 => (pullD (α := Int) (m_83 [.list 3 [iD r175, iD r211, iD r222]]) (fun d => ((D.vi d))) (fun r223 => iD r223) fun r223 => (some (iD r223)))) else pullD (α := Int) (m_102 [.list 1 [iD pe, iD pf]]) (fun d => ((D.vi d))) (fun r224 => iD r224) fun r224 => (pullD (α := Int) (m_83 [.list 2 [iD (0 : Int), iD r224]]) (fun d => ((D.vi d))) (fun r225 => iD r225) fun r225 => (pullD (α := Int) (m_83 [.list 3 [iD r175, iD r211, iD r225]]) (fun d => ((D.vi d))) (fun r226 => iD r226) fun r226 => (some (iD r226)))))))))) else (if pd > (1000 : Int) then pullD (α := Int) (m_102 [.list 1 [iD pc, iD pd]]) (fun d => ((D.vi d))) (fun r227 => iD r227) fun r227 => (pullD (α := Int) (m_83 [.list 2 [iD (2 : Int), iD r227]]) (fun d => ((D.vi d))) (fun r228 => iD r228) fun r228 => ((if pe < (0 : Int) then pullD (α := Int) (m_102 [.list 1 [iD pe, iD pf]]) (fun d => ((D.vi d))) (fun r229 => iD r229) fun r229 => (pullD (α := Int) (m_83 [.list 2 [iD (2 : Int), iD r229]]) (fun d => ((D.vi d))) (fun r230 => iD r230) fun r230 => (pullD (α := Int) (m_83 [.list 3 [iD r175, iD r228, iD r230]]) (fun d => ((D.vi d))) (fun r231 => iD r231) fun r231 => (some (iD r231)))) else (if pe > (10000 : Int) then pullD (α := Int) (m_102 [.list 1 [iD pe, iD pf]]) (fun d => ((D.vi d))) (fun r232 => iD r232) fun r232 => (pullD (α := Int) (m_83 [.list 2 [iD (2 : Int), iD r232]]) (fun d => ((D.vi d))) (fun r233 => iD r233) fun r233 => (pullD (α := Int) (m_83 [.list 3 [iD r175, iD r228, iD r233]]) (fun d => ((D.vi d))) (fun r234 => iD r234) fun r234 => (some (iD r234)))) else (if pf < (0 : Int) then pullD (α := Int) (m_102 [.list 1 [iD pe, iD pf]]) (fun d => ((D.vi d))) (fun r235 => iD r235) fun r235 => (pullD (α := Int) (m_83 [.list 2 [iD (2 : Int), iD r235]]) (fun d => ((D.vi d))) (fun r236 => iD r236) fun r236 => (pullD (α := Int) (m_83 [.list 3 [iD r175, iD r228, iD r236]]) (fun d => ((D.vi d))) (fun r237 => iD r237) fun r237 => (some (iD r237)))) else (if pf > (10000 : Int) then pullD (α := Int) (m_102 [.list 1 [iD pe, iD pf]]) (fun d => ((D.vi d))) (fun r238 => iD r238) fun r238 => (pullD (α := Int) (m_83 [.list 2 [iD (2 : Int), iD r238]]) (fun d => ((D.vi d))) (fun r239 => iD r239) fun r239 => (pullD (α := Int) (m_83 [.list 3 [iD r175, iD r228, iD r239]]) (fun d => ((D.vi d))) (fun r240 => iD r240) fun r240 => (some (iD r240)))) else pullD (α := Int) (m_102 [.list 1 [iD pe, iD pf]]) (fun d => ((D.vi d))) (fun r241 => iD r241) fun r241 => (pullD (α := Int) (m_83 [.list 2 [iD (0 : Int), iD r241]]) (fun d => ((D.vi d))) (fun r242 => iD r242) fun r242 => (pullD (α := Int) (m_83 [.list 3 [iD r175, iD r228, iD r242]]) (fun d => ((D.vi d))) (fun r243 => iD r243) fun r243 => (some (iD r243)))))))))) else pullD (α := Int) (m_102 [.list 1 [iD pc, iD pd]]) (fun d => ((D.vi d))) (fun r244 => iD r244) fun r244 => (pullD (α := Int) (m_83 [.list 2 [iD (0 : Int), iD r244]]) (fun d => ((D.vi d))) (fun r245 => iD r245) fun r245 => ((if pe < (0 : Int) then pullD (α := Int) (m_102 [.list 1 [iD pe, iD pf]]) (fun d => ((D.vi d))) (fun r246 => iD r246) fun r246 => (pullD (α := Int) (m_83 [.list 2 [iD (2 : Int), iD r246]]) (fun d => ((D.vi d))) (fun r247 => iD r247) fun r247 => (pullD (α := Int) (m_83 [.list 3 [iD r175, iD r245, iD r247]]) (fun d => ((D.vi d))) (fun r248 => iD r248) fun r248 => (some (iD r248)))) else (if pe > (10000 : Int) then pullD (α := Int) (m_102 [.list 1 [iD pe, iD pf]]) (fun d => ((D.vi d))) (fun r249 => iD r249) fun r249 => (pullD (α := Int) (m_83 [.list 2 [iD (2 : Int), iD r249]]) (fun d => ((D.vi d))) (fun r250 => iD r250) fun r250 => (pullD (α := Int) (m_83 [.list 3 [iD r175, iD r245, iD r250]]) (fun d => ((D.vi d))) (fun r251 => iD r251) fun r251 => (some (iD r251)))) else (if pf < (0 : Int) then pullD (α := Int) (m_102 [.list 1 [iD pe, iD pf]]) (fun d => ((D.vi d))) (fun r252 => iD r252) fun r252 => (pullD (α := Int) (m_83 [.list 2 [iD (2 : Int), iD r252]]) (fun d => ((D.vi d))) (fun r253 => iD r253) fun r253 => (pullD (α := Int) (m_83 [.list 3 [iD r175, iD r245, iD r253]]) (fun d => ((D.vi d))) (fun r254 => iD r254) fun r254 => (some (iD r254)))) else (if pf > (10000 : Int) then pullD (α := Int) (m_102 [.list 1 [iD pe, iD pf]]) (fun d => ((D.vi d))) (fun r255 => iD r255) fun r255 => (pullD (α := Int) (m_83 [.list 2 [iD (2 : Int), iD r255]]) (fun d => ((D.vi d))) (fun r256 => iD r256) fun r256 => (pullD (α := Int) (m_83 [.list 3 [iD r175, iD r245, iD r256]]) (fun d => ((D.vi d))) (fun r257 => iD r257) fun r257 => (some (iD r257)))) else pullD (α := Int) (m_102 [.list 1 [iD pe, iD pf]]) (fun d => ((D.vi d))) (fun r258 => iD r258) fun r258 => (pullD (α := Int) (m_83 [.list 2 [iD (0 : Int), iD r258]]) (fun d => ((D.vi d))) (fun r259 => iD r259) fun r259 => (pullD (α := Int) (m_83 [.list 3 [iD r175, iD r245, iD r259]]) (fun d => ((D.vi d))) (fun r260 => iD r260) fun r260 => (some (iD r260)))))))))))))
def chkClamp_M_s6 (pa pb pc pd pe pf : Int) (r261 : Int) (r262 : Int) : Option D := pullD (α := Int) (m_102 [.list 1 [iD pc, iD pd]]) (fun d => ((D.vi d))) (fun r263 => iD r263) fun r263 => (pullD (α := Int) (m_83 [.list 2 [iD (2 : Int), iD r263]]) (fun d => ((D.vi d))) (fun r264 => iD r264) fun r264 => ((if pe < (0 : Int) then pullD (α := Int) (m_102 [.list 1 [iD pe, iD pf]]) (fun d => ((D.vi d))) (fun r265 => iD r265) fun r265 => (pullD (α := Int) (m_83 [.list 2 [iD (2 : Int), iD r265]]) (fun d => ((D.vi d))) (fun r266 => iD r266) fun r266 => (pullD (α := Int) (m_83 [.list 3 [iD r262, iD r264, iD r266]]) (fun d => ((D.vi d))) (fun r267 => iD r267) fun r267 => (some (iD r267)))) else (if pe > (10000 : Int) then pullD (α := Int) (m_102 [.list 1 [iD pe, iD pf]]) (fun d => ((D.vi d))) (fun r268 => iD r268) fun r268 => (pullD (α := Int) (m_83 [.list 2 [iD (2 : Int), iD r268]]) (fun d => ((D.vi d))) (fun r269 => iD r269) fun r269 => (pullD (α := Int) (m_83 [.list 3 [iD r262, iD r264, iD r269]]) (fun d => ((D.vi d))) (fun r270 => iD r270) fun r270 => (some (iD r270)))) else (if pf < (0 : Int) then pullD (α := Int) (m_102 [.list 1 [iD pe, iD pf]]) (fun d => ((D.vi d))) (fun r271 => iD r271) fun r271 => (pullD (α := Int) (m_83 [.list 2 [iD (2 : Int), iD r271]]) (fun d => ((D.vi d))) (fun r272 => iD r272) fun r272 => (pullD (α := Int) (m_83 [.list 3 [iD r262, iD r264, iD r272]]) (fun d => ((D.vi d))) (fun r273 => iD r273) fun r273 => (some (iD r273)))) else (if pf > (10000 : Int) then pullD (α := Int) (m_102 [.list 1 [iD pe, iD pf]]) (fun d => ((D.vi d))) (fun r274 => iD r274) fun r274 => (pullD (α := Int) (m_83 [.list 2 [iD (2 : Int), iD r274]]) (fun d => ((D.vi d))) (fun r275 => iD r275) fun r275 => (pullD (α := Int) (m_83 [.list 3 [iD r262, iD r264, iD r275]]) (fun d => ((D.vi d))) (fun r276 => iD r276) fun r276 => (some (iD r276)))) else pullD (α := Int) (m_102 [.list 1 [iD pe, iD pf]]) (fun d => ((D.vi d))) (fun r277 => iD r277) fun r277 => (pullD (α := Int) (m_83 [.list 2 [iD (0 : Int), iD r277]]) (fun d => ((D.vi d))) (fun r278 => iD r278) fun r278 => (pullD (α := Int) (m_83 [.list 3 [iD r262, iD r264, iD r278]]) (fun d => ((D.vi d))) (fun r279 => iD r279) fun r279 => (some (iD r279))))))))))
def chkClamp_M_s7 (pa pb pc pd pe pf : Int) (r261 : Int) (r262 : Int) : Option D := (if pc > (1000 : Int) then pullD (α := Int) (m_102 [.list 1 [iD pc, iD pd]]) (fun d => ((D.vi d))) (fun r280 => iD r280) fun r280 => (pullD (α := Int) (m_83 [.list 2 [iD (2 : Int), iD r280]]) (fun d => ((D.vi d))) (fun r281 => iD r281) fun r281 => ((if pe < (0 : Int) then pullD (α := Int) (m_102 [.list 1 [iD pe, iD pf]]) (fun d => ((D.vi d))) (fun r282 => iD r282) fun r282 => (pullD (α := Int) (m_83 [.list 2 [iD (2 : Int), iD r282]]) (fun d => ((D.vi d))) (fun r283 => iD r283) fun r283 => (pullD (α := Int) (m_83 [.list 3 [iD r262, iD r281, iD r283]]) (fun d => ((D.vi d))) (fun r284 => iD r284) fun r284 => (some (iD r284)))) else (if pe > (10000 : Int) then pullD (α := Int) (m_102 [.list 1 [iD pe, iD pf]]) (fun d => ((D.vi d))) (fun r285 => iD r285) fun r285 => (pullD (α := Int) (m_83 [.list 2 [iD (2 : Int), iD r285]]) (fun d => ((D.vi d))) (fun r286 => iD r286) fun r286 => (pullD (α := Int) (m_83 [.list 3 [iD r262, iD r281, iD r286]]) (fun d => ((D.vi d))) (fun r287 => iD r287) fun r287 => (some (iD r287)))) else (if pf < (0 : Int) then pullD (α := Int) (m_102 [.list 1 [iD pe, iD pf]]) (fun d => ((D.vi d))) (fun r288 => iD r288) fun r288 => (pullD (α := Int) (m_83 [.list 2 [iD (2 : Int), iD r288]]) (fun d => ((D.vi d))) (fun r289 => iD r289) fun r289 => (pullD (α := Int) (m_83 [.list 3 [iD r262, iD r281, iD r289]]) (fun d => ((D.vi d))) (fun r290 => iD r290) fun r290 => (some (iD r290)))) else (if pf > (10000 : Int) then pullD (α := Int) (m_102 [.list 1 [iD pe, iD pf]]) (fun d => ((D.vi d))) (fun r291 => iD r291) fun r291 => (pullD (α := Int) (m_83 [.list 2 [iD (2 : Int), iD r291]]) (fun d => ((D.vi d))) (fun r292 => iD r292) fun r292 => (pullD (α := Int) (m_83 [.list 3 [iD r262, iD r281, iD r292]]) (fun d => ((D.vi d))) (fun r293 => iD r293) fun r293 => (some (iD r293)))) else pullD (α := Int) (m_102 [.list 1 [iD pe, iD pf]]) (fun d => ((D.vi d))) (fun r294 => iD r294) fun r294 => (pullD (α := Int) (m_83 [.list 2 [iD (0 : Int), iD r294]]) (fun d => ((D.vi d))) (fun r295 => iD r295) fun r295 => (pullD (α := Int) (m_83 [.list 3 [iD r262, iD r281, iD r295]]) (fun d => ((D.vi d))) (fun r296 => iD r296) fun r296 => (some (iD r296)))))))))) else (if pd < (0 : Int) then pullD (α := Int) (m_102 [.list 1 [iD pc, iD pd]]) (fun d => ((D.vi d))) (fun r297 => iD r297) fun r297 => (pullD (α := Int) (m_83 [.list 2 [iD (2 : Int), iD r297]]) (fun d => ((D.vi d))) (fun r298 => iD r298) fun r298 => ((if pe < (0 : Int) then pullD (α := Int) (m_102 [.list 1 [iD pe, iD pf]]) (fun d => ((D.vi d))) (fun r299 => iD r299) fun r299 => (pullD (α := Int) (m_83 [.list 2 [iD (2 : Int), iD r299]]) (fun d => ((D.vi d))) (fun r300 => iD r300) fun r300 => (pullD (α := Int) (m_83 [.list 3 [iD r262, iD r298, iD r300]]) (fun d => ((D.vi d))) (fun r301 => iD r301) fun r301 => (some (iD r301)))) else (if pe > (10000 : Int) then pullD (α := Int) (m_102 [.list 1 [iD pe, iD pf]]) (fun d => ((D.vi d))) (fun r302 => iD r302) fun r302 => (pullD (α := Int) (m_83 [.list 2 [iD (2 : Int), iD r302]]) (fun d => ((D.vi d))) (fun r303 => iD r303) fun r303 => (pullD (α := Int) (m_83 [.list 3 [iD r262, iD r298, iD r303]]) (fun d => ((D.vi d))) (fun r304 => iD r304) fun r304 => (some (iD r304)))) else (if pf < (0 : Int) then pullD (α := Int) (m_102 [.list 1 [iD pe, iD pf]]) (fun d => ((D.vi d))) (fun r305 => iD r305) fun r305 => (pullD (α := Int) (m_83 [.list 2 [iD (2 : Int), iD r305]]) (fun d => ((D.vi d))) (fun r306 => iD r306) fun r306 => (pullD (α := Int) (m_83 [.list 3 [iD r262, iD r298, iD r306]]) (fun d => ((D.vi d))) (fun r307 => iD r307) fun r307 => (some (iD r307)))) else (if pf > (10000 : Int) then pullD (α := Int) (m_102 [.list 1 [iD pe, iD pf]]) (fun d => ((D.vi d))) (fun r308 => iD r308) fun r308 => (pullD (α := Int) (m_83 [.list 2 [iD (2 : Int), iD r308]]) (fun d => ((D.vi d))) (fun r309 => iD r309) fun r309 => (pullD (α := Int) (m_83 [.list 3 [iD r262, iD r298, iD r309]]) (fun d => ((D.vi d))) (fun r310 => iD r310) fun r310 => (some (iD r310)))) else pullD (α := Int) (m_102 [.list 1 [iD pe, iD pf]]) (fun d => ((D.vi d))) (fun r311 => iD r311) fun r311 => (pullD (α := Int) (m_83 [.list 2 [iD (0 : Int), iD r311]]) (fun d => ((D.vi d))) (fun r312 => iD r312) fun r312 => (pullD (α := Int) (m_83 [.list 3 [iD r262, iD r298, iD r312]]) (fun d => ((D.vi d))) (fun r313 => iD r313) fun r313 => (some (iD r313)))))))))) else (if pd > (1000 : Int) then pullD (α := Int) (m_102 [.list 1 [iD pc, iD pd]]) (fun d => ((D.vi d))) (fun r314 => iD r314) fun r314 => (pullD (α := Int) (m_83 [.list 2 [iD (2 : Int), iD r314]]) (fun d => ((D.vi d))) (fun r315 => iD r315) fun r315 => ((if pe < (0 : Int) then pullD (α := Int) (m_102 [.list 1 [iD pe, iD pf]]) (fun d => ((D.vi d))) (fun r316 => iD r316) fun r316 => (pullD (α := Int) (m_83 [.list 2 [iD (2 : Int), iD r316]]) (fun d => ((D.vi d))) (fun r317 => iD r317) fun r317 => (pullD (α := Int) (m_83 [.list 3 [iD r262, iD r315, iD r317]]) (fun d => ((D.vi d))) (fun r318 => iD r318) fun r318 => (some (iD r318)))) else (if pe > (10000 : Int) then pullD (α := Int) (m_102 [.list 1 [iD pe, iD pf]]) (fun d => ((D.vi d))) (fun r319 => iD r319) fun r319 => (pullD (α := Int) (m_83 [.list 2 [iD (2 : Int), iD r319]]) (fun d => ((D.vi d))) (fun r320 => iD r320) fun r320 => (pullD (α := Int) (m_83 [.list 3 [iD r262, iD r315, iD r320]]) (fun d => ((D.vi d))) (fun r321 => iD r321) fun r321 => (some (iD r321)))) else (if pf < (0 : Int) then pullD (α := Int) (m_102 [.list 1 [iD pe, iD pf]]) (fun d => ((D.vi d))) (fun r322 => iD r322) fun r322 => (pullD (α := Int) (m_83 [.list 2 [iD (2 : Int), iD r322]]) (fun d => ((D.vi d))) (fun r323 => iD r323) fun r323 => (pullD (α := Int) (m_83 [.list 3 [iD r262, iD r315, iD r323]]) (fun d => ((D.vi d))) (fun r324 => iD r324) fun r324 => (some (iD r324)))) else (if pf > (10000 : Int) then pullD (α := Int) (m_102 [.list 1 [iD pe, iD pf]]) (fun d => ((D.vi d))) (fun r325 => iD r325) fun r325 => (pullD (α := Int) (m_83 [.list 2 [iD (2 : Int), iD r325]]) (fun d => ((D.vi d))) (fun r326 => iD r326) fun r326 => (pullD (α := Int) (m_83 [.list 3 [iD r262, iD r315, iD r326]]) (fun d => ((D.vi d))) (fun r327 => iD r327) fun r327 => (some (iD r327)))) else pullD (α := Int) (m_102 [.list 1 [iD pe, iD pf]]) (fun d => ((D.vi d))) (fun r328 => iD r328) fun r328 => (pullD (α := Int) (m_83 [.list 2 [iD (0 : Int), iD r328]]) (fun d => ((D.vi d))) (fun r329 => iD r329) fun r329 => (pullD (α := Int) (m_83 [.list 3 [iD r262, iD r315, iD r329]]) (fun d => ((D.vi d))) (fun r330 => iD r330) fun r330 => (some (iD r330)))))))))) else pullD (α := Int) (m_102 [.list 1 [iD pc, iD pd]]) (fun d => ((D.vi d))) (fun r331 => iD r331) fun r331 => (pullD (α := Int) (m_83 [.list 2 [iD (0 : Int), iD r331]]) (fun d => ((D.vi d))) (fun r332 => iD r332) fun r332 => ((if pe < (0 : Int) then pullD (α := Int) (m_102 [.list 1 [iD pe, iD pf]]) (fun d => ((D.vi d))) (fun r333 => iD r333) fun r333 => (pullD (α := Int) (m_83 [.list 2 [iD (2 : Int), iD r333]]) (fun d => ((D.vi d))) (fun r334 => iD r334) fun r334 => (pullD (α := Int) (m_83 [.list 3 [iD r262, iD r332, iD r334]]) (fun d => ((D.vi d))) (fun r335 => iD r335) fun r335 => (some (iD r335)))) else (if pe > (10000 : Int) then pullD (α := Int) (m_102 [.list 1 [iD pe, iD pf]]) (fun d => ((D.vi d))) (fun r336 => iD r336) fun r336 => (pullD (α := Int) (m_83 [.list 2 [iD (2 : Int), iD r336]]) (fun d => ((D.vi d))) (fun r337 => iD r337) fun r337 => (pullD (α := Int) (m_83 [.list 3 [iD r262, iD r332, iD r337]]) (fun d => ((D.vi d))) (fun r338 => iD r338) fun r338 => (some (iD r338)))) else (if pf < (0 : Int) then pullD (α := Int) (m_102 [.list 1 [iD pe, iD pf]]) (fun d => ((D.vi d))) (fun r339 => iD r339) fun r339 => (pullD (α := Int) (m_83 [.list 2 [iD (2 : Int), iD r339]]) (fun d => ((D.vi d))) (fun r340 => iD r340) fun r340 => (pullD (α := Int) (m_83 [.list 3 [iD r262, iD r332, iD r340]]) (fun d => ((D.vi d))) (fun r341 => iD r341) fun r341 => (some (iD r341)))) else (if pf > (10000 : Int) then pullD (α := Int) (m_102 [.list 1 [iD pe, iD pf]]) (fun d => ((D.vi d))) (fun r342 => iD r342) fun r342 => (pullD (α := Int) (m_83 [.list 2 [iD (2 : Int), iD r342]]) (fun d => ((D.vi d))) (fun r343 => iD r343) fun r343 => (pullD (α := Int) (m_83 [.list 3 [iD r262, iD r332, iD r343]]) (fun d => ((D.vi d))) (fun r344 => iD r344) fun r344 => (some (iD r344)))) else pullD (α := Int) (m_102 [.list 1 [iD pe, iD pf]]) (fun d => ((D.vi d))) (fun r345 => iD r345) fun r345 => (pullD (α := Int) (m_83 [.list 2 [iD (0 : Int), iD r345]]) (fun d => ((D.vi d))) (fun r346 => iD r346) fun r346 => (pullD (α := Int) (m_83 [.list 3 [iD r262, iD r332, iD r346]]) (fun d => ((D.vi d))) (fun r347 => iD r347) fun r347 => (some (iD r347)))))))))))))
def chkClamp_M_s8 (pa pb pc pd pe pf : Int) (r348 : Int) (r349 : Int) : Option D := pullD (α := Int) (m_102 [.list 1 [iD pc, iD pd]]) (fun d => ((D.vi d))) (fun r350 => iD r350) fun r350 => (pullD (α := Int) (m_83 [.list 2 [iD (2 : Int), iD r350]]) (fun d => ((D.vi d))) (fun r351 => iD r351) fun r351 => ((if pe < (0 : Int) then pullD (α := Int) (m_102 [.list 1 [iD pe, iD pf]]) (fun d => ((D.vi d))) (fun r352 => iD r352) fun r352 => (pullD (α := Int) (m_83 [.list 2 [iD (2 : Int), iD r352]]) (fun d => ((D.vi d))) (fun r353 => iD r353) fun r353 => (pullD (α := Int) (m_83 [.list 3 [iD r349, iD r351, iD r353]]) (fun d => ((D.vi d))) (fun r354 => iD r354) fun r354 => (some (iD r354)))) else (if pe > (10000 : Int) then pullD (α := Int) (m_102 [.list 1 [iD pe, iD pf]]) (fun d => ((D.vi d))) (fun r355 => iD r355) fun r355 => (pullD (α := Int) (m_83 [.list 2 [iD (2 : Int), iD r355]]) (fun d => ((D.vi d))) (fun r356 => iD r356) fun r356 => (pullD (α := Int) (m_83 [.list 3 [iD r349, iD r351, iD r356]]) (fun d => ((D.vi d))) (fun r357 => iD r357) fun r357 => (some (iD r357)))) else (if pf < (0 : Int) then pullD (α := Int) (m_102 [.list 1 [iD pe, iD pf]]) (fun d => ((D.vi d))) (fun r358 => iD r358) fun r358 => (pullD (α := Int) (m_83 [.list 2 [iD (2 : Int), iD r358]]) (fun d => ((D.vi d))) (fun r359 => iD r359) fun r359 => (pullD (α := Int) (m_83 [.list 3 [iD r349, iD r351, iD r359]]) (fun d => ((D.vi d))) (fun r360 => iD r360) fun r360 => (some (iD r360)))) else (if pf > (10000 : Int) then pullD (α := Int) (m_102 [.list 1 [iD pe, iD pf]]) (fun d => ((D.vi d))) (fun r361 => iD r361) fun r361 => (pullD (α := Int) (m_83 [.list 2 [iD (2 : Int), iD r361]]) (fun d => ((D.vi d))) (fun r362 => iD r362) fun r362 => (pullD (α := Int) (m_83 [.list 3 [iD r349, iD r351, iD r362]]) (fun d => ((D.vi d))) (fun r363 => iD r363) fun r363 => (some (iD r363)))) else pullD (α := Int) (m_102 [.list 1 [iD pe, iD pf]]) (fun d => ((D.vi d))) (fun r364 => iD r364) fun r364 => (pullD (α := Int) (m_83 [.list 2 [iD (0 : Int), iD r364]]) (fun d => ((D.vi d))) (fun r365 => iD r365) fun r365 => (pullD (α := Int) (m_83 [.list 3 [iD r349, iD r351, iD r365]]) (fun d => ((D.vi d))) (fun r366 => iD r366) fun r366 => (some (iD r366))))))))))
def chkClamp_M_s9 (pa pb pc pd pe pf : Int) (r348 : Int) (r349 : Int) : Option D := (if pc > (1000 : Int) then pullD (α := Int) (m_102 [.list 1 [iD pc, iD pd]]) (fun d => ((D.vi d))) (fun r367 => iD r367) fun r367 => (pullD (α := Int) (m_83 [.list 2 [iD (2 : Int), iD r367]]) (fun d => ((D.vi d))) (fun r368 => iD r368) fun r368 => ((if pe < (0 : Int) then pullD (α := Int) (m_102 [.list 1 [iD pe, iD pf]]) (fun d => ((D.vi d))) (fun r369 => iD r369) fun r369 => (pullD (α := Int) (m_83 [.list 2 [iD (2 : Int), iD r369]]) (fun d => ((D.vi d))) (fun r370 => iD r370) fun r370 => (pullD (α := Int) (m_83 [.list 3 [iD r349, iD r368, iD r370]]) (fun d => ((D.vi d))) (fun r371 => iD r371) fun r371 => (some (iD r371)))) else (if pe > (10000 : Int) then pullD (α := Int) (m_102 [.list 1 [iD pe, iD pf]]) (fun d => ((D.vi d))) (fun r372 => iD r372) fun r372 => (pullD (α := Int) (m_83 [.list 2 [iD (2 : Int), iD r372]]) (fun d => ((D.vi d))) (fun r373 => iD r373) fun r373 => (pullD (α := Int) (m_83 [.list 3 [iD r349, iD r368, iD r373]]) (fun d => ((D.vi d))) (fun r374 => iD r374) fun r374 => (some (iD r374)))) else (if pf < (0 : Int) then pullD (α := Int) (m_102 [.list 1 [iD pe, iD pf]]) (fun d => ((D.vi d))) (fun r375 => iD r375) fun r375 => (pullD (α := Int) (m_83 [.list 2 [iD (2 : Int), iD r375]]) (fun d => ((D.vi d))) (fun r376 => iD r376) fun r376 => (pullD (α := Int) (m_83 [.list 3 [iD r349, iD r368, iD r376]]) (fun d => ((D.vi d))) (fun r377 => iD r377) fun r377 => (some (iD r377)))) else (if pf > (10000 : Int) then pullD (α := Int) (m_102 [.list 1 [iD pe, iD pf]]) (fun d => ((D.vi d))) (fun r378 => iD r378) fun r378 => (pullD (α := Int) (m_83 [.list 2 [iD (2 : Int), iD r378]]) (fun d => ((D.vi d))) (fun r379 => iD r379) fun r379 => (pullD (α := Int) (m_83 [.list 3 [iD r349, iD r368, iD r379]]) (fun d => ((D.vi d))) (fun r380 => iD r380) fun r380 => (some (iD r380)))) else pullD (α := Int) (m_102 [.list 1 [iD pe, iD pf]]) (fun d => ((D.vi d))) (fun r381 => iD r381) fun r381 => (pullD (α := Int) (m_83 [.list 2 [iD (0 : Int), iD r381]]) (fun d => ((D.vi d))) (fun r382 => iD r382) fun r382 => (pullD (α := Int) (m_83 [.list 3 [iD r349, iD r368, iD r382]]) (fun d => ((D.vi d))) (fun r383 => iD r383) fun r383 => (some (iD r383)))))))))) else (if pd < (0 : Int) then pullD (α := Int) (m_102 [.list 1 [iD pc, iD pd]]) (fun d => ((D.vi d))) (fun r384 => iD r384) fun r384 => (pullD (α := Int) (m_83 [.list 2 [iD (2 : Int), iD r384]]) (fun d => ((D.vi d))) (fun r385 => iD r385) fun r385 => ((if pe < (0 : Int) then pullD (α := Int) (m_102 [.list 1 [iD pe, iD pf]]) (fun d => ((D.vi d))) (fun r386 => iD r386) fun r386 => (pullD (α := Int) (m_83 [.list 2 [iD (2 : Int), iD r386]]) (fun d => ((D.vi d))) (fun r387 => iD r387) fun r387 => (pullD (α := Int) (m_83 [.list 3 [iD r349, iD r385, iD r387]]) (fun d => ((D.vi d))) (fun r388 => iD r388) fun r388 => (some (iD r388)))) else (if pe > (10000 : Int) then pullD (α := Int) (m_102 [.list 1 [iD pe, iD pf]]) (fun d => ((D.vi d))) (fun r389 => iD r389) fun r389 => (pullD (α := Int) (m_83 [.list 2 [iD (2 : Int), iD r389]]) (fun d => ((D.vi d))) (fun r390 => iD r390) fun r390 => (pullD (α := Int) (m_83 [.list 3 [iD r349, iD r385, iD r390]]) (fun d => ((D.vi d))) (fun r391 => iD r391) fun r391 => (some (iD r391)))) else (if pf < (0 : Int) then pullD (α := Int) (m_102 [.list 1 [iD pe, iD pf]]) (fun d => ((D.vi d))) (fun r392 => iD r392) fun r392 => (pullD (α := Int) (m_83 [.list 2 [iD (2 : Int), iD r392]]) (fun d => ((D.vi d))) (fun r393 => iD r393) fun r393 => (pullD (α := Int) (m_83 [.list 3 [iD r349, iD r385, iD r393]]) (fun d => ((D.vi d))) (fun r394 => iD r394) fun r394 => (some (iD r394)))) else (if pf > (10000 : Int) then pullD (α := Int) (m_102 [.list 1 [iD pe, iD pf]]) (fun d => ((D.vi d))) (fun r395 => iD r395) fun r395 => (pullD (α := Int) (m_83 [.list 2 [iD (2 : Int), iD r395]]) (fun d => ((D.vi d))) (fun r396 => iD r396) fun r396 => (pullD (α := Int) (m_83 [.list 3 [iD r349, iD r385, iD r396]]) (fun d => ((D.vi d))) (fun r397 => iD r397) fun r397 => (some (iD r397)))) else pullD (α := Int) (m_102 [.list 1 [iD pe, iD pf]]) (fun d => ((D.vi d))) (fun r398 => iD r398) fun r398 => (pullD (α := Int) (m_83 [.list 2 [iD (0 : Int), iD r398]]) (fun d => ((D.vi d))) (fun r399 => iD r399) fun r399 => (pullD (α := Int) (m_83 [.list 3 [iD r349, iD r385, iD r399]]) (fun d => ((D.vi d))) (fun r400 => iD r400) fun r400 => (some (iD r400)))))))))) else (if pd > (1000 : Int) then pullD (α := Int) (m_102 [.list 1 [iD pc, iD pd]]) (fun d => ((D.vi d))) (fun r401 => iD r401) fun r401 => (pullD (α := Int) (m_83 [.list 2 [iD (2 : Int), iD r401]]) (fun d => ((D.vi d))) (fun r402 => iD r402) fun r402 => ((if pe < (0 : Int) then pullD (α := Int) (m_102 [.list 1 [iD pe, iD pf]]) (fun d => ((D.vi d))) (fun r403 => iD r403) fun r403 => (pullD (α := Int) (m_83 [.list 2 [iD (2 : Int), iD r403]]) (fun d => ((D.vi d))) (fun r404 => iD r404) fun r404 => (pullD (α := Int) (m_83 [.list 3 [iD r349, iD r402, iD r404]]) (fun d => ((D.vi d))) (fun r405 => iD r405) fun r405 => (some (iD r405)))) else (if pe > (10000 : Int) then pullD (α := Int) (m_102 [.list 1 [iD pe, iD pf]]) (fun d => ((D.vi d))) (fun r406 => iD r406) fun r406 => (pullD (α := Int) (m_83 [.list 2 [iD (2 : Int), iD r406]]) (fun d => ((D.vi d))) (fun r407 => iD r407) fun r407 => (pullD (α := Int) (m_83 [.list 3 [iD r349, iD r402, iD r407]]) (fun d => ((D.vi d))) (fun r408 => iD r408) fun r408 => (some (iD r408)))) else (if pf < (0 : Int) then pullD (α := Int) (m_102 [.list 1 [iD pe, iD pf]]) (fun d => ((D.vi d))) (fun r409 => iD r409) fun r409 => (pullD (α := Int) (m_83 [.list 2 [iD (2 : Int), iD r409]]) (fun d => ((D.vi d))) (fun r410 => iD r410) fun r410 => (pullD (α := Int) (m_83 [.list 3 [iD r349, iD r402, iD r410]]) (fun d => ((D.vi d))) (fun r411 => iD r411) fun r411 => (some (iD r411)))) else (if pf > (10000 : Int) then pullD (α := Int) (m_102 [.list 1 [iD pe, iD pf]]) (fun d => ((D.vi d))) (fun r412 => iD r412) fun r412 => (pullD (α := Int) (m_83 [.list 2 [iD (2 : Int), iD r412]]) (fun d => ((D.vi d))) (fun r413 => iD r413) fun r413 => (pullD (α := Int) (m_83 [.list 3 [iD r349, iD r402, iD r413]]) (fun d => ((D.vi d))) (fun r414 => iD r414) fun r414 => (some (iD r414)))) else pullD (α := Int) (m_102 [.list 1 [iD pe, iD pf]]) (fun d => ((D.vi d))) (fun r415 => iD r415) fun r415 => (pullD (α := Int) (m_83 [.list 2 [iD (0 : Int), iD r415]]) (fun d => ((D.vi d))) (fun r416 => iD r416) fun r416 => (pullD (α := Int) (m_83 [.list 3 [iD r349, iD r402, iD r416]]) (fun d => ((D.vi d))) (fun r417 => iD r417) fun r417 => (some (iD r417)))))))))) else pullD (α := Int) (m_102 [.list 1 [iD pc, iD pd]]) (fun d => ((D.vi d))) (fun r418 => iD r418) fun r418 => (pullD (α := Int) (m_83 [.list 2 [iD (0 : Int), iD r418]]) (fun d => ((D.vi d))) (fun r419 => iD r419) fun r419 => ((if pe < (0 : Int) then pullD (α := Int) (m_102 [.list 1 [iD pe, iD pf]]) (fun d => ((D.vi d))) (fun r420 => iD r420) fun r420 => (pullD (α := Int) (m_83 [.list 2 [iD (2 : Int), iD r420]]) (fun d => ((D.vi d))) (fun r421 => iD r421) fun r421 => (pullD (α := Int) (m_83 [.list 3 [iD r349, iD r419, iD r421]]) (fun d => ((D.vi d))) (fun r422 => iD r422) fun r422 => (some (iD r422)))) else (if pe > (10000 : Int) then pullD (α := Int) (m_102 [.list 1 [iD pe, iD pf]]) (fun d => ((D.vi d))) (fun r423 => iD r423) fun r423 => (pullD (α := Int) (m_83 [.list 2 [iD (2 : Int), iD r423]]) (fun d => ((D.vi d))) (fun r424 => iD r424) fun r424 => (pullD (α := Int) (m_83 [.list 3 [iD r349, iD r419, iD r424]]) (fun d => ((D.vi d))) (fun r425 => iD r425) fun r425 => (some (iD r425)))) else (if pf < (0 : Int) then pullD (α := Int) (m_102 [.list 1 [iD pe, iD pf]]) (fun d => ((D.vi d))) (fun r426 => iD r426) fun r426 => (pullD (α := Int) (m_83 [.list 2 [iD (2 : Int), iD r426]]) (fun d => ((D.vi d))) (fun r427 => iD r427) fun r427 => (pullD (α := Int) (m_83 [.list 3 [iD r349, iD r419, iD r427]]) (fun d => ((D.vi d))) (fun r428 => iD r428) fun r428 => (some (iD r428)))) else (if pf > (10000 : Int) then pullD (α := Int) (m_102 [.list 1 [iD pe, iD pf]]) (fun d => ((D.vi d))) (fun r429 => iD r429) fun r429 => (pullD (α := Int) (m_83 [.list 2 [iD (2 : Int), iD r429]]) (fun d => ((D.vi d))) (fun r430 => iD r430) fun r430 => (pullD (α := Int) (m_83 [.list 3 [iD r349, iD r419, iD r430]]) (fun d => ((D.vi d))) (fun r431 => iD r431) fun r431 => (some (iD r431)))) else pullD (α := Int) (m_102 [.list 1 [iD pe, iD pf]]) (fun d => ((D.vi d))) (fun r432 => iD r432) fun r432 => (pullD (α := Int) (m_83 [.list 2 [iD (0 : Int), iD r432]]) (fun d => ((D.vi d))) (fun r433 => iD r433) fun r433 => (pullD (α := Int) (m_83 [.list 3 [iD r349, iD r419, iD r433]]) (fun d => ((D.vi d))) (fun r434 => iD r434) fun r434 => (some (iD r434)))))))))))))
def chkClamp_M (pa pb pc pd pe pf : Int) : Option D := (if pa < (0 : Int) then pullD (α := Int) (m_102 [.list 1 [iD pa, iD pb]]) (fun d => ((D.vi d))) (fun r0 => iD r0) fun r0 => (pullD (α := Int) (m_83 [.list 2 [iD (2 : Int), iD r0]]) (fun d => ((D.vi d))) (fun r1 => iD r1) fun r1 => ((if pc < (0 : Int) then chkClamp_M_s0 pa pb pc pd pe pf r0 r1 else chkClamp_M_s1 pa pb pc pd pe pf r0 r1))) else (if pa > (1000000000 : Int) then pullD (α := Int) (m_102 [.list 1 [iD pa, iD pb]]) (fun d => ((D.vi d))) (fun r87 => iD r87) fun r87 => (pullD (α := Int) (m_83 [.list 2 [iD (2 : Int), iD r87]]) (fun d => ((D.vi d))) (fun r88 => iD r88) fun r88 => ((if pc < (0 : Int) then chkClamp_M_s2 pa pb pc pd pe pf r87 r88 else chkClamp_M_s3 pa pb pc pd pe pf r87 r88))) else (if pb < (0 : Int) then pullD (α := Int) (m_102 [.list 1 [iD pa, iD pb]]) (fun d => ((D.vi d))) (fun r174 => iD r174) fun r174 => (pullD (α := Int) (m_83 [.list 2 [iD (2 : Int), iD r174]]) (fun d => ((D.vi d))) (fun r175 => iD r175) fun r175 => ((if pc < (0 : Int) then chkClamp_M_s4 pa pb pc pd pe pf r174 r175 else chkClamp_M_s5 pa pb pc pd pe pf r174 r175))) else (if pb > (1000000000 : Int) then pullD (α := Int) (m_102 [.list 1 [iD pa, iD pb]]) (fun d => ((D.vi d))) (fun r261 => iD r261) fun r261 => (pullD (α := Int) (m_83 [.list 2 [iD (2 : Int), iD r261]]) (fun d => ((D.vi d))) (fun r262 => iD r262) fun r262 => ((if pc < (0 : Int) then chkClamp_M_s6 pa pb pc pd pe pf r261 r262 else chkClamp_M_s7 pa pb pc pd pe pf r261 r262))) else pullD (α := Int) (m_102 [.list 1 [iD pa, iD pb]]) (fun d => ((D.vi d))) (fun r348 => iD r348) fun r348 => (pullD (α := Int) (m_83 [.list 2 [iD (0 : Int), iD r348]]) (fun d => ((D.vi d))) (fun r349 => iD r349) fun r349 => ((if pc < (0 : Int) then chkClamp_M_s8 pa pb pc pd pe pf r348 r349 else chkClamp_M_s9 pa pb pc pd pe pf r348 r349)))))))
theorem chkClamp_M_s0_ok (pa pb pc pd pe pf : Int) (r0 : Int) (r1 : Int) (b1_ : pa < (0 : Int)) (f3_ : Con 102 [.list 1 [iD pa, iD pb]] (iD r0)) (f5_ : Con 83 [.list 2 [iD (2 : Int), iD r0]] (iD r1)) (b7_ : pc < (0 : Int)) {r : D} (h : chkClamp_M_s0 pa pb pc pd pe pf r0 r1 = some r) : Con 115 [(shNF5_0 pa pb pc pd pe pf)] r := by
  unfold chkClamp_M_s0 at h
  obtain ⟨r2, fq1_, hq2_⟩ := pullD_elim h
  replace fq1_ := m_102_ok fq1_
  obtain ⟨r3, fq3_, hq4_⟩ := pullD_elim hq2_
  replace fq3_ := m_83_ok fq3_
  by_cases bq5_ : pe < (0 : Int)
  · have hq6_ := (if_pos bq5_).symm.trans hq4_
    obtain ⟨r4, fq7_, hq8_⟩ := pullD_elim hq6_
    replace fq7_ := m_102_ok fq7_
    obtain ⟨r5, fq9_, hq10_⟩ := pullD_elim hq8_
    replace fq9_ := m_83_ok fq9_
    obtain ⟨r6, fq11_, hq12_⟩ := pullD_elim hq10_
    replace fq11_ := m_83_ok fq11_
    obtain rfl := Option.some.inj hq12_
    exact con_pc (op := true) (I := [115, 143, 95, 132]) (sp := chkClamp_sp) 3000 (bT 18 []) [iD r0, iD r1, iD r2, iD r3, iD r4, iD r5, iD r6] [c_T, c_d b1_, c_d b1_, c_d b1_, c_d b1_, c_T, c_le 0, c_le 1, c_T, c_d b7_, c_d b7_, c_d b7_, c_d b7_, c_T, c_le 0, c_le 1, c_T, c_d bq5_, c_d bq5_, c_d bq5_, c_d bq5_, c_T, c_le 0, c_le 1, c_le 2] [k_c f3_, k_c f5_, k_c fq1_, k_c fq3_, k_c fq7_, k_c fq9_, k_c fq11_] (by kernel_rfl)
  have hq6_ := (if_neg bq5_).symm.trans hq4_
  by_cases bq13_ : pe > (10000 : Int)
  · have hq14_ := (if_pos bq13_).symm.trans hq6_
    obtain ⟨r7, fq15_, hq16_⟩ := pullD_elim hq14_
    replace fq15_ := m_102_ok fq15_
    obtain ⟨r8, fq17_, hq18_⟩ := pullD_elim hq16_
    replace fq17_ := m_83_ok fq17_
    obtain ⟨r9, fq19_, hq20_⟩ := pullD_elim hq18_
    replace fq19_ := m_83_ok fq19_
    obtain rfl := Option.some.inj hq20_
    exact con_pc (op := true) (I := [115, 143, 95, 132]) (sp := chkClamp_sp) 3000 (bT 13 (bF 4 (bT 1 []))) [iD r0, iD r1, iD r2, iD r3, iD r7, iD r8, iD r9] [c_T, c_d b1_, c_d b1_, c_d b1_, c_d b1_, c_T, c_le 0, c_le 1, c_T, c_d b7_, c_d b7_, c_d b7_, c_d b7_, c_T, c_le 0, c_le 1, c_T, c_n bq5_, c_n bq5_, c_n bq5_, c_n bq5_, c_d bq13_, c_le 0, c_le 1, c_le 2] [k_c f3_, k_c f5_, k_c fq1_, k_c fq3_, k_c fq15_, k_c fq17_, k_c fq19_] (by kernel_rfl)
  have hq14_ := (if_neg bq13_).symm.trans hq6_
  by_cases bq21_ : pf < (0 : Int)
  · have hq22_ := (if_pos bq21_).symm.trans hq14_
    obtain ⟨r10, fq23_, hq24_⟩ := pullD_elim hq22_
    replace fq23_ := m_102_ok fq23_
    obtain ⟨r11, fq25_, hq26_⟩ := pullD_elim hq24_
    replace fq25_ := m_83_ok fq25_
    obtain ⟨r12, fq27_, hq28_⟩ := pullD_elim hq26_
    replace fq27_ := m_83_ok fq27_
    obtain rfl := Option.some.inj hq28_
    exact con_pc (op := true) (I := [115, 143, 95, 132]) (sp := chkClamp_sp) 3000 (bT 13 (bF 5 (bT 6 []))) [iD r0, iD r1, iD r2, iD r3, iD r10, iD r11, iD r12] [c_T, c_d b1_, c_d b1_, c_d b1_, c_d b1_, c_T, c_le 0, c_le 1, c_T, c_d b7_, c_d b7_, c_d b7_, c_d b7_, c_T, c_le 0, c_le 1, c_T, c_n bq5_, c_n bq5_, c_n bq5_, c_n bq5_, c_n bq13_, c_T, c_d bq21_, c_d bq21_, c_d bq21_, c_d bq21_, c_T, c_le 0, c_le 1, c_le 2] [k_c f3_, k_c f5_, k_c fq1_, k_c fq3_, k_c fq23_, k_c fq25_, k_c fq27_] (by kernel_rfl)
  have hq22_ := (if_neg bq21_).symm.trans hq14_
  by_cases bq29_ : pf > (10000 : Int)
  · have hq30_ := (if_pos bq29_).symm.trans hq22_
    obtain ⟨r13, fq31_, hq32_⟩ := pullD_elim hq30_
    replace fq31_ := m_102_ok fq31_
    obtain ⟨r14, fq33_, hq34_⟩ := pullD_elim hq32_
    replace fq33_ := m_83_ok fq33_
    obtain ⟨r15, fq35_, hq36_⟩ := pullD_elim hq34_
    replace fq35_ := m_83_ok fq35_
    obtain rfl := Option.some.inj hq36_
    exact con_pc (op := true) (I := [115, 143, 95, 132]) (sp := chkClamp_sp) 3000 (bT 13 (bF 5 (bT 1 (bF 4 (bT 1 []))))) [iD r0, iD r1, iD r2, iD r3, iD r13, iD r14, iD r15] [c_T, c_d b1_, c_d b1_, c_d b1_, c_d b1_, c_T, c_le 0, c_le 1, c_T, c_d b7_, c_d b7_, c_d b7_, c_d b7_, c_T, c_le 0, c_le 1, c_T, c_n bq5_, c_n bq5_, c_n bq5_, c_n bq5_, c_n bq13_, c_T, c_n bq21_, c_n bq21_, c_n bq21_, c_n bq21_, c_d bq29_, c_le 0, c_le 1, c_le 2] [k_c f3_, k_c f5_, k_c fq1_, k_c fq3_, k_c fq31_, k_c fq33_, k_c fq35_] (by kernel_rfl)
  have hq30_ := (if_neg bq29_).symm.trans hq22_
  obtain ⟨r16, fq37_, hq38_⟩ := pullD_elim hq30_
  replace fq37_ := m_102_ok fq37_
  obtain ⟨r17, fq39_, hq40_⟩ := pullD_elim hq38_
  replace fq39_ := m_83_ok fq39_
  obtain ⟨r18, fq41_, hq42_⟩ := pullD_elim hq40_
  replace fq41_ := m_83_ok fq41_
  obtain rfl := Option.some.inj hq42_
  exact con_pc (op := true) (I := [115, 143, 95, 132]) (sp := chkClamp_sp) 3000 (bT 13 (bF 5 (bT 1 (bF 6 [])))) [iD r0, iD r1, iD r2, iD r3, iD r16, iD r17, iD r18] [c_T, c_d b1_, c_d b1_, c_d b1_, c_d b1_, c_T, c_le 0, c_le 1, c_T, c_d b7_, c_d b7_, c_d b7_, c_d b7_, c_T, c_le 0, c_le 1, c_T, c_n bq5_, c_n bq5_, c_n bq5_, c_n bq5_, c_n bq13_, c_T, c_n bq21_, c_n bq21_, c_n bq21_, c_n bq21_, c_n bq29_, c_F, c_le 0, c_le 1, c_le 2] [k_c f3_, k_c f5_, k_c fq1_, k_c fq3_, k_c fq37_, k_c fq39_, k_c fq41_] (by kernel_rfl)
theorem chkClamp_M_s1_ok (pa pb pc pd pe pf : Int) (r0 : Int) (r1 : Int) (b1_ : pa < (0 : Int)) (f3_ : Con 102 [.list 1 [iD pa, iD pb]] (iD r0)) (f5_ : Con 83 [.list 2 [iD (2 : Int), iD r0]] (iD r1)) (b7_ : ¬ (pc < (0 : Int))) {r : D} (h : chkClamp_M_s1 pa pb pc pd pe pf r0 r1 = some r) : Con 115 [(shNF5_0 pa pb pc pd pe pf)] r := by
  unfold chkClamp_M_s1 at h
  by_cases bq1_ : pc > (1000 : Int)
  · have hq2_ := (if_pos bq1_).symm.trans h
    obtain ⟨r19, fq3_, hq4_⟩ := pullD_elim hq2_
    replace fq3_ := m_102_ok fq3_
    obtain ⟨r20, fq5_, hq6_⟩ := pullD_elim hq4_
    replace fq5_ := m_83_ok fq5_
    by_cases bq7_ : pe < (0 : Int)
    · have hq8_ := (if_pos bq7_).symm.trans hq6_
      obtain ⟨r21, fq9_, hq10_⟩ := pullD_elim hq8_
      replace fq9_ := m_102_ok fq9_
      obtain ⟨r22, fq11_, hq12_⟩ := pullD_elim hq10_
      replace fq11_ := m_83_ok fq11_
      obtain ⟨r23, fq13_, hq14_⟩ := pullD_elim hq12_
      replace fq13_ := m_83_ok fq13_
      obtain rfl := Option.some.inj hq14_
      exact con_pc (op := true) (I := [115, 143, 95, 132]) (sp := chkClamp_sp) 3000 (bT 7 (bF 4 (bT 7 []))) [iD r0, iD r1, iD r19, iD r20, iD r21, iD r22, iD r23] [c_T, c_d b1_, c_d b1_, c_d b1_, c_d b1_, c_T, c_le 0, c_le 1, c_T, c_n b7_, c_n b7_, c_n b7_, c_n b7_, c_d bq1_, c_le 0, c_le 1, c_T, c_d bq7_, c_d bq7_, c_d bq7_, c_d bq7_, c_T, c_le 0, c_le 1, c_le 2] [k_c f3_, k_c f5_, k_c fq3_, k_c fq5_, k_c fq9_, k_c fq11_, k_c fq13_] (by kernel_rfl)
    have hq8_ := (if_neg bq7_).symm.trans hq6_
    by_cases bq15_ : pe > (10000 : Int)
    · have hq16_ := (if_pos bq15_).symm.trans hq8_
      obtain ⟨r24, fq17_, hq18_⟩ := pullD_elim hq16_
      replace fq17_ := m_102_ok fq17_
      obtain ⟨r25, fq19_, hq20_⟩ := pullD_elim hq18_
      replace fq19_ := m_83_ok fq19_
      obtain ⟨r26, fq21_, hq22_⟩ := pullD_elim hq20_
      replace fq21_ := m_83_ok fq21_
      obtain rfl := Option.some.inj hq22_
      exact con_pc (op := true) (I := [115, 143, 95, 132]) (sp := chkClamp_sp) 3000 (bT 7 (bF 4 (bT 2 (bF 4 (bT 1 []))))) [iD r0, iD r1, iD r19, iD r20, iD r24, iD r25, iD r26] [c_T, c_d b1_, c_d b1_, c_d b1_, c_d b1_, c_T, c_le 0, c_le 1, c_T, c_n b7_, c_n b7_, c_n b7_, c_n b7_, c_d bq1_, c_le 0, c_le 1, c_T, c_n bq7_, c_n bq7_, c_n bq7_, c_n bq7_, c_d bq15_, c_le 0, c_le 1, c_le 2] [k_c f3_, k_c f5_, k_c fq3_, k_c fq5_, k_c fq17_, k_c fq19_, k_c fq21_] (by kernel_rfl)
    have hq16_ := (if_neg bq15_).symm.trans hq8_
    by_cases bq23_ : pf < (0 : Int)
    · have hq24_ := (if_pos bq23_).symm.trans hq16_
      obtain ⟨r27, fq25_, hq26_⟩ := pullD_elim hq24_
      replace fq25_ := m_102_ok fq25_
      obtain ⟨r28, fq27_, hq28_⟩ := pullD_elim hq26_
      replace fq27_ := m_83_ok fq27_
      obtain ⟨r29, fq29_, hq30_⟩ := pullD_elim hq28_
      replace fq29_ := m_83_ok fq29_
      obtain rfl := Option.some.inj hq30_
      exact con_pc (op := true) (I := [115, 143, 95, 132]) (sp := chkClamp_sp) 3000 (bT 7 (bF 4 (bT 2 (bF 5 (bT 6 []))))) [iD r0, iD r1, iD r19, iD r20, iD r27, iD r28, iD r29] [c_T, c_d b1_, c_d b1_, c_d b1_, c_d b1_, c_T, c_le 0, c_le 1, c_T, c_n b7_, c_n b7_, c_n b7_, c_n b7_, c_d bq1_, c_le 0, c_le 1, c_T, c_n bq7_, c_n bq7_, c_n bq7_, c_n bq7_, c_n bq15_, c_T, c_d bq23_, c_d bq23_, c_d bq23_, c_d bq23_, c_T, c_le 0, c_le 1, c_le 2] [k_c f3_, k_c f5_, k_c fq3_, k_c fq5_, k_c fq25_, k_c fq27_, k_c fq29_] (by kernel_rfl)
    have hq24_ := (if_neg bq23_).symm.trans hq16_
    by_cases bq31_ : pf > (10000 : Int)
    · have hq32_ := (if_pos bq31_).symm.trans hq24_
      obtain ⟨r30, fq33_, hq34_⟩ := pullD_elim hq32_
      replace fq33_ := m_102_ok fq33_
      obtain ⟨r31, fq35_, hq36_⟩ := pullD_elim hq34_
      replace fq35_ := m_83_ok fq35_
      obtain ⟨r32, fq37_, hq38_⟩ := pullD_elim hq36_
      replace fq37_ := m_83_ok fq37_
      obtain rfl := Option.some.inj hq38_
      exact con_pc (op := true) (I := [115, 143, 95, 132]) (sp := chkClamp_sp) 3000 (bT 7 (bF 4 (bT 2 (bF 5 (bT 1 (bF 4 (bT 1 []))))))) [iD r0, iD r1, iD r19, iD r20, iD r30, iD r31, iD r32] [c_T, c_d b1_, c_d b1_, c_d b1_, c_d b1_, c_T, c_le 0, c_le 1, c_T, c_n b7_, c_n b7_, c_n b7_, c_n b7_, c_d bq1_, c_le 0, c_le 1, c_T, c_n bq7_, c_n bq7_, c_n bq7_, c_n bq7_, c_n bq15_, c_T, c_n bq23_, c_n bq23_, c_n bq23_, c_n bq23_, c_d bq31_, c_le 0, c_le 1, c_le 2] [k_c f3_, k_c f5_, k_c fq3_, k_c fq5_, k_c fq33_, k_c fq35_, k_c fq37_] (by kernel_rfl)
    have hq32_ := (if_neg bq31_).symm.trans hq24_
    obtain ⟨r33, fq39_, hq40_⟩ := pullD_elim hq32_
    replace fq39_ := m_102_ok fq39_
    obtain ⟨r34, fq41_, hq42_⟩ := pullD_elim hq40_
    replace fq41_ := m_83_ok fq41_
    obtain ⟨r35, fq43_, hq44_⟩ := pullD_elim hq42_
    replace fq43_ := m_83_ok fq43_
    obtain rfl := Option.some.inj hq44_
    exact con_pc (op := true) (I := [115, 143, 95, 132]) (sp := chkClamp_sp) 3000 (bT 7 (bF 4 (bT 2 (bF 5 (bT 1 (bF 6 [])))))) [iD r0, iD r1, iD r19, iD r20, iD r33, iD r34, iD r35] [c_T, c_d b1_, c_d b1_, c_d b1_, c_d b1_, c_T, c_le 0, c_le 1, c_T, c_n b7_, c_n b7_, c_n b7_, c_n b7_, c_d bq1_, c_le 0, c_le 1, c_T, c_n bq7_, c_n bq7_, c_n bq7_, c_n bq7_, c_n bq15_, c_T, c_n bq23_, c_n bq23_, c_n bq23_, c_n bq23_, c_n bq31_, c_F, c_le 0, c_le 1, c_le 2] [k_c f3_, k_c f5_, k_c fq3_, k_c fq5_, k_c fq39_, k_c fq41_, k_c fq43_] (by kernel_rfl)
  have hq2_ := (if_neg bq1_).symm.trans h
  by_cases bq45_ : pd < (0 : Int)
  · have hq46_ := (if_pos bq45_).symm.trans hq2_
    obtain ⟨r36, fq47_, hq48_⟩ := pullD_elim hq46_
    replace fq47_ := m_102_ok fq47_
    obtain ⟨r37, fq49_, hq50_⟩ := pullD_elim hq48_
    replace fq49_ := m_83_ok fq49_
    by_cases bq51_ : pe < (0 : Int)
    · have hq52_ := (if_pos bq51_).symm.trans hq50_
      obtain ⟨r38, fq53_, hq54_⟩ := pullD_elim hq52_
      replace fq53_ := m_102_ok fq53_
      obtain ⟨r39, fq55_, hq56_⟩ := pullD_elim hq54_
      replace fq55_ := m_83_ok fq55_
      obtain ⟨r40, fq57_, hq58_⟩ := pullD_elim hq56_
      replace fq57_ := m_83_ok fq57_
      obtain rfl := Option.some.inj hq58_
      exact con_pc (op := true) (I := [115, 143, 95, 132]) (sp := chkClamp_sp) 3000 (bT 7 (bF 5 (bT 12 []))) [iD r0, iD r1, iD r36, iD r37, iD r38, iD r39, iD r40] [c_T, c_d b1_, c_d b1_, c_d b1_, c_d b1_, c_T, c_le 0, c_le 1, c_T, c_n b7_, c_n b7_, c_n b7_, c_n b7_, c_n bq1_, c_T, c_d bq45_, c_d bq45_, c_d bq45_, c_d bq45_, c_T, c_le 0, c_le 1, c_T, c_d bq51_, c_d bq51_, c_d bq51_, c_d bq51_, c_T, c_le 0, c_le 1, c_le 2] [k_c f3_, k_c f5_, k_c fq47_, k_c fq49_, k_c fq53_, k_c fq55_, k_c fq57_] (by kernel_rfl)
    have hq52_ := (if_neg bq51_).symm.trans hq50_
    by_cases bq59_ : pe > (10000 : Int)
    · have hq60_ := (if_pos bq59_).symm.trans hq52_
      obtain ⟨r41, fq61_, hq62_⟩ := pullD_elim hq60_
      replace fq61_ := m_102_ok fq61_
      obtain ⟨r42, fq63_, hq64_⟩ := pullD_elim hq62_
      replace fq63_ := m_83_ok fq63_
      obtain ⟨r43, fq65_, hq66_⟩ := pullD_elim hq64_
      replace fq65_ := m_83_ok fq65_
      obtain rfl := Option.some.inj hq66_
      exact con_pc (op := true) (I := [115, 143, 95, 132]) (sp := chkClamp_sp) 3000 (bT 7 (bF 5 (bT 7 (bF 4 (bT 1 []))))) [iD r0, iD r1, iD r36, iD r37, iD r41, iD r42, iD r43] [c_T, c_d b1_, c_d b1_, c_d b1_, c_d b1_, c_T, c_le 0, c_le 1, c_T, c_n b7_, c_n b7_, c_n b7_, c_n b7_, c_n bq1_, c_T, c_d bq45_, c_d bq45_, c_d bq45_, c_d bq45_, c_T, c_le 0, c_le 1, c_T, c_n bq51_, c_n bq51_, c_n bq51_, c_n bq51_, c_d bq59_, c_le 0, c_le 1, c_le 2] [k_c f3_, k_c f5_, k_c fq47_, k_c fq49_, k_c fq61_, k_c fq63_, k_c fq65_] (by kernel_rfl)
    have hq60_ := (if_neg bq59_).symm.trans hq52_
    by_cases bq67_ : pf < (0 : Int)
    · have hq68_ := (if_pos bq67_).symm.trans hq60_
      obtain ⟨r44, fq69_, hq70_⟩ := pullD_elim hq68_
      replace fq69_ := m_102_ok fq69_
      obtain ⟨r45, fq71_, hq72_⟩ := pullD_elim hq70_
      replace fq71_ := m_83_ok fq71_
      obtain ⟨r46, fq73_, hq74_⟩ := pullD_elim hq72_
      replace fq73_ := m_83_ok fq73_
      obtain rfl := Option.some.inj hq74_
      exact con_pc (op := true) (I := [115, 143, 95, 132]) (sp := chkClamp_sp) 3000 (bT 7 (bF 5 (bT 7 (bF 5 (bT 6 []))))) [iD r0, iD r1, iD r36, iD r37, iD r44, iD r45, iD r46] [c_T, c_d b1_, c_d b1_, c_d b1_, c_d b1_, c_T, c_le 0, c_le 1, c_T, c_n b7_, c_n b7_, c_n b7_, c_n b7_, c_n bq1_, c_T, c_d bq45_, c_d bq45_, c_d bq45_, c_d bq45_, c_T, c_le 0, c_le 1, c_T, c_n bq51_, c_n bq51_, c_n bq51_, c_n bq51_, c_n bq59_, c_T, c_d bq67_, c_d bq67_, c_d bq67_, c_d bq67_, c_T, c_le 0, c_le 1, c_le 2] [k_c f3_, k_c f5_, k_c fq47_, k_c fq49_, k_c fq69_, k_c fq71_, k_c fq73_] (by kernel_rfl)
    have hq68_ := (if_neg bq67_).symm.trans hq60_
    by_cases bq75_ : pf > (10000 : Int)
    · have hq76_ := (if_pos bq75_).symm.trans hq68_
      obtain ⟨r47, fq77_, hq78_⟩ := pullD_elim hq76_
      replace fq77_ := m_102_ok fq77_
      obtain ⟨r48, fq79_, hq80_⟩ := pullD_elim hq78_
      replace fq79_ := m_83_ok fq79_
      obtain ⟨r49, fq81_, hq82_⟩ := pullD_elim hq80_
      replace fq81_ := m_83_ok fq81_
      obtain rfl := Option.some.inj hq82_
      exact con_pc (op := true) (I := [115, 143, 95, 132]) (sp := chkClamp_sp) 3000 (bT 7 (bF 5 (bT 7 (bF 5 (bT 1 (bF 4 (bT 1 []))))))) [iD r0, iD r1, iD r36, iD r37, iD r47, iD r48, iD r49] [c_T, c_d b1_, c_d b1_, c_d b1_, c_d b1_, c_T, c_le 0, c_le 1, c_T, c_n b7_, c_n b7_, c_n b7_, c_n b7_, c_n bq1_, c_T, c_d bq45_, c_d bq45_, c_d bq45_, c_d bq45_, c_T, c_le 0, c_le 1, c_T, c_n bq51_, c_n bq51_, c_n bq51_, c_n bq51_, c_n bq59_, c_T, c_n bq67_, c_n bq67_, c_n bq67_, c_n bq67_, c_d bq75_, c_le 0, c_le 1, c_le 2] [k_c f3_, k_c f5_, k_c fq47_, k_c fq49_, k_c fq77_, k_c fq79_, k_c fq81_] (by kernel_rfl)
    have hq76_ := (if_neg bq75_).symm.trans hq68_
    obtain ⟨r50, fq83_, hq84_⟩ := pullD_elim hq76_
    replace fq83_ := m_102_ok fq83_
    obtain ⟨r51, fq85_, hq86_⟩ := pullD_elim hq84_
    replace fq85_ := m_83_ok fq85_
    obtain ⟨r52, fq87_, hq88_⟩ := pullD_elim hq86_
    replace fq87_ := m_83_ok fq87_
    obtain rfl := Option.some.inj hq88_
    exact con_pc (op := true) (I := [115, 143, 95, 132]) (sp := chkClamp_sp) 3000 (bT 7 (bF 5 (bT 7 (bF 5 (bT 1 (bF 6 [])))))) [iD r0, iD r1, iD r36, iD r37, iD r50, iD r51, iD r52] [c_T, c_d b1_, c_d b1_, c_d b1_, c_d b1_, c_T, c_le 0, c_le 1, c_T, c_n b7_, c_n b7_, c_n b7_, c_n b7_, c_n bq1_, c_T, c_d bq45_, c_d bq45_, c_d bq45_, c_d bq45_, c_T, c_le 0, c_le 1, c_T, c_n bq51_, c_n bq51_, c_n bq51_, c_n bq51_, c_n bq59_, c_T, c_n bq67_, c_n bq67_, c_n bq67_, c_n bq67_, c_n bq75_, c_F, c_le 0, c_le 1, c_le 2] [k_c f3_, k_c f5_, k_c fq47_, k_c fq49_, k_c fq83_, k_c fq85_, k_c fq87_] (by kernel_rfl)
  have hq46_ := (if_neg bq45_).symm.trans hq2_
  by_cases bq89_ : pd > (1000 : Int)
  · have hq90_ := (if_pos bq89_).symm.trans hq46_
    obtain ⟨r53, fq91_, hq92_⟩ := pullD_elim hq90_
    replace fq91_ := m_102_ok fq91_
    obtain ⟨r54, fq93_, hq94_⟩ := pullD_elim hq92_
    replace fq93_ := m_83_ok fq93_
    by_cases bq95_ : pe < (0 : Int)
    · have hq96_ := (if_pos bq95_).symm.trans hq94_
      obtain ⟨r55, fq97_, hq98_⟩ := pullD_elim hq96_
      replace fq97_ := m_102_ok fq97_
      obtain ⟨r56, fq99_, hq100_⟩ := pullD_elim hq98_
      replace fq99_ := m_83_ok fq99_
      obtain ⟨r57, fq101_, hq102_⟩ := pullD_elim hq100_
      replace fq101_ := m_83_ok fq101_
      obtain rfl := Option.some.inj hq102_
      exact con_pc (op := true) (I := [115, 143, 95, 132]) (sp := chkClamp_sp) 3000 (bT 7 (bF 5 (bT 1 (bF 4 (bT 7 []))))) [iD r0, iD r1, iD r53, iD r54, iD r55, iD r56, iD r57] [c_T, c_d b1_, c_d b1_, c_d b1_, c_d b1_, c_T, c_le 0, c_le 1, c_T, c_n b7_, c_n b7_, c_n b7_, c_n b7_, c_n bq1_, c_T, c_n bq45_, c_n bq45_, c_n bq45_, c_n bq45_, c_d bq89_, c_le 0, c_le 1, c_T, c_d bq95_, c_d bq95_, c_d bq95_, c_d bq95_, c_T, c_le 0, c_le 1, c_le 2] [k_c f3_, k_c f5_, k_c fq91_, k_c fq93_, k_c fq97_, k_c fq99_, k_c fq101_] (by kernel_rfl)
    have hq96_ := (if_neg bq95_).symm.trans hq94_
    by_cases bq103_ : pe > (10000 : Int)
    · have hq104_ := (if_pos bq103_).symm.trans hq96_
      obtain ⟨r58, fq105_, hq106_⟩ := pullD_elim hq104_
      replace fq105_ := m_102_ok fq105_
      obtain ⟨r59, fq107_, hq108_⟩ := pullD_elim hq106_
      replace fq107_ := m_83_ok fq107_
      obtain ⟨r60, fq109_, hq110_⟩ := pullD_elim hq108_
      replace fq109_ := m_83_ok fq109_
      obtain rfl := Option.some.inj hq110_
      exact con_pc (op := true) (I := [115, 143, 95, 132]) (sp := chkClamp_sp) 3000 (bT 7 (bF 5 (bT 1 (bF 4 (bT 2 (bF 4 (bT 1 []))))))) [iD r0, iD r1, iD r53, iD r54, iD r58, iD r59, iD r60] [c_T, c_d b1_, c_d b1_, c_d b1_, c_d b1_, c_T, c_le 0, c_le 1, c_T, c_n b7_, c_n b7_, c_n b7_, c_n b7_, c_n bq1_, c_T, c_n bq45_, c_n bq45_, c_n bq45_, c_n bq45_, c_d bq89_, c_le 0, c_le 1, c_T, c_n bq95_, c_n bq95_, c_n bq95_, c_n bq95_, c_d bq103_, c_le 0, c_le 1, c_le 2] [k_c f3_, k_c f5_, k_c fq91_, k_c fq93_, k_c fq105_, k_c fq107_, k_c fq109_] (by kernel_rfl)
    have hq104_ := (if_neg bq103_).symm.trans hq96_
    by_cases bq111_ : pf < (0 : Int)
    · have hq112_ := (if_pos bq111_).symm.trans hq104_
      obtain ⟨r61, fq113_, hq114_⟩ := pullD_elim hq112_
      replace fq113_ := m_102_ok fq113_
      obtain ⟨r62, fq115_, hq116_⟩ := pullD_elim hq114_
      replace fq115_ := m_83_ok fq115_
      obtain ⟨r63, fq117_, hq118_⟩ := pullD_elim hq116_
      replace fq117_ := m_83_ok fq117_
      obtain rfl := Option.some.inj hq118_
      exact con_pc (op := true) (I := [115, 143, 95, 132]) (sp := chkClamp_sp) 3000 (bT 7 (bF 5 (bT 1 (bF 4 (bT 2 (bF 5 (bT 6 []))))))) [iD r0, iD r1, iD r53, iD r54, iD r61, iD r62, iD r63] [c_T, c_d b1_, c_d b1_, c_d b1_, c_d b1_, c_T, c_le 0, c_le 1, c_T, c_n b7_, c_n b7_, c_n b7_, c_n b7_, c_n bq1_, c_T, c_n bq45_, c_n bq45_, c_n bq45_, c_n bq45_, c_d bq89_, c_le 0, c_le 1, c_T, c_n bq95_, c_n bq95_, c_n bq95_, c_n bq95_, c_n bq103_, c_T, c_d bq111_, c_d bq111_, c_d bq111_, c_d bq111_, c_T, c_le 0, c_le 1, c_le 2] [k_c f3_, k_c f5_, k_c fq91_, k_c fq93_, k_c fq113_, k_c fq115_, k_c fq117_] (by kernel_rfl)
    have hq112_ := (if_neg bq111_).symm.trans hq104_
    by_cases bq119_ : pf > (10000 : Int)
    · have hq120_ := (if_pos bq119_).symm.trans hq112_
      obtain ⟨r64, fq121_, hq122_⟩ := pullD_elim hq120_
      replace fq121_ := m_102_ok fq121_
      obtain ⟨r65, fq123_, hq124_⟩ := pullD_elim hq122_
      replace fq123_ := m_83_ok fq123_
      obtain ⟨r66, fq125_, hq126_⟩ := pullD_elim hq124_
      replace fq125_ := m_83_ok fq125_
      obtain rfl := Option.some.inj hq126_
      exact con_pc (op := true) (I := [115, 143, 95, 132]) (sp := chkClamp_sp) 3000 (bT 7 (bF 5 (bT 1 (bF 4 (bT 2 (bF 5 (bT 1 (bF 4 (bT 1 []))))))))) [iD r0, iD r1, iD r53, iD r54, iD r64, iD r65, iD r66] [c_T, c_d b1_, c_d b1_, c_d b1_, c_d b1_, c_T, c_le 0, c_le 1, c_T, c_n b7_, c_n b7_, c_n b7_, c_n b7_, c_n bq1_, c_T, c_n bq45_, c_n bq45_, c_n bq45_, c_n bq45_, c_d bq89_, c_le 0, c_le 1, c_T, c_n bq95_, c_n bq95_, c_n bq95_, c_n bq95_, c_n bq103_, c_T, c_n bq111_, c_n bq111_, c_n bq111_, c_n bq111_, c_d bq119_, c_le 0, c_le 1, c_le 2] [k_c f3_, k_c f5_, k_c fq91_, k_c fq93_, k_c fq121_, k_c fq123_, k_c fq125_] (by kernel_rfl)
    have hq120_ := (if_neg bq119_).symm.trans hq112_
    obtain ⟨r67, fq127_, hq128_⟩ := pullD_elim hq120_
    replace fq127_ := m_102_ok fq127_
    obtain ⟨r68, fq129_, hq130_⟩ := pullD_elim hq128_
    replace fq129_ := m_83_ok fq129_
    obtain ⟨r69, fq131_, hq132_⟩ := pullD_elim hq130_
    replace fq131_ := m_83_ok fq131_
    obtain rfl := Option.some.inj hq132_
    exact con_pc (op := true) (I := [115, 143, 95, 132]) (sp := chkClamp_sp) 3000 (bT 7 (bF 5 (bT 1 (bF 4 (bT 2 (bF 5 (bT 1 (bF 6 [])))))))) [iD r0, iD r1, iD r53, iD r54, iD r67, iD r68, iD r69] [c_T, c_d b1_, c_d b1_, c_d b1_, c_d b1_, c_T, c_le 0, c_le 1, c_T, c_n b7_, c_n b7_, c_n b7_, c_n b7_, c_n bq1_, c_T, c_n bq45_, c_n bq45_, c_n bq45_, c_n bq45_, c_d bq89_, c_le 0, c_le 1, c_T, c_n bq95_, c_n bq95_, c_n bq95_, c_n bq95_, c_n bq103_, c_T, c_n bq111_, c_n bq111_, c_n bq111_, c_n bq111_, c_n bq119_, c_F, c_le 0, c_le 1, c_le 2] [k_c f3_, k_c f5_, k_c fq91_, k_c fq93_, k_c fq127_, k_c fq129_, k_c fq131_] (by kernel_rfl)
  have hq90_ := (if_neg bq89_).symm.trans hq46_
  obtain ⟨r70, fq133_, hq134_⟩ := pullD_elim hq90_
  replace fq133_ := m_102_ok fq133_
  obtain ⟨r71, fq135_, hq136_⟩ := pullD_elim hq134_
  replace fq135_ := m_83_ok fq135_
  by_cases bq137_ : pe < (0 : Int)
  · have hq138_ := (if_pos bq137_).symm.trans hq136_
    obtain ⟨r72, fq139_, hq140_⟩ := pullD_elim hq138_
    replace fq139_ := m_102_ok fq139_
    obtain ⟨r73, fq141_, hq142_⟩ := pullD_elim hq140_
    replace fq141_ := m_83_ok fq141_
    obtain ⟨r74, fq143_, hq144_⟩ := pullD_elim hq142_
    replace fq143_ := m_83_ok fq143_
    obtain rfl := Option.some.inj hq144_
    exact con_pc (op := true) (I := [115, 143, 95, 132]) (sp := chkClamp_sp) 3000 (bT 7 (bF 5 (bT 1 (bF 6 (bT 6 []))))) [iD r0, iD r1, iD r70, iD r71, iD r72, iD r73, iD r74] [c_T, c_d b1_, c_d b1_, c_d b1_, c_d b1_, c_T, c_le 0, c_le 1, c_T, c_n b7_, c_n b7_, c_n b7_, c_n b7_, c_n bq1_, c_T, c_n bq45_, c_n bq45_, c_n bq45_, c_n bq45_, c_n bq89_, c_F, c_le 0, c_le 1, c_T, c_d bq137_, c_d bq137_, c_d bq137_, c_d bq137_, c_T, c_le 0, c_le 1, c_le 2] [k_c f3_, k_c f5_, k_c fq133_, k_c fq135_, k_c fq139_, k_c fq141_, k_c fq143_] (by kernel_rfl)
  have hq138_ := (if_neg bq137_).symm.trans hq136_
  by_cases bq145_ : pe > (10000 : Int)
  · have hq146_ := (if_pos bq145_).symm.trans hq138_
    obtain ⟨r75, fq147_, hq148_⟩ := pullD_elim hq146_
    replace fq147_ := m_102_ok fq147_
    obtain ⟨r76, fq149_, hq150_⟩ := pullD_elim hq148_
    replace fq149_ := m_83_ok fq149_
    obtain ⟨r77, fq151_, hq152_⟩ := pullD_elim hq150_
    replace fq151_ := m_83_ok fq151_
    obtain rfl := Option.some.inj hq152_
    exact con_pc (op := true) (I := [115, 143, 95, 132]) (sp := chkClamp_sp) 3000 (bT 7 (bF 5 (bT 1 (bF 6 (bT 1 (bF 4 (bT 1 []))))))) [iD r0, iD r1, iD r70, iD r71, iD r75, iD r76, iD r77] [c_T, c_d b1_, c_d b1_, c_d b1_, c_d b1_, c_T, c_le 0, c_le 1, c_T, c_n b7_, c_n b7_, c_n b7_, c_n b7_, c_n bq1_, c_T, c_n bq45_, c_n bq45_, c_n bq45_, c_n bq45_, c_n bq89_, c_F, c_le 0, c_le 1, c_T, c_n bq137_, c_n bq137_, c_n bq137_, c_n bq137_, c_d bq145_, c_le 0, c_le 1, c_le 2] [k_c f3_, k_c f5_, k_c fq133_, k_c fq135_, k_c fq147_, k_c fq149_, k_c fq151_] (by kernel_rfl)
  have hq146_ := (if_neg bq145_).symm.trans hq138_
  by_cases bq153_ : pf < (0 : Int)
  · have hq154_ := (if_pos bq153_).symm.trans hq146_
    obtain ⟨r78, fq155_, hq156_⟩ := pullD_elim hq154_
    replace fq155_ := m_102_ok fq155_
    obtain ⟨r79, fq157_, hq158_⟩ := pullD_elim hq156_
    replace fq157_ := m_83_ok fq157_
    obtain ⟨r80, fq159_, hq160_⟩ := pullD_elim hq158_
    replace fq159_ := m_83_ok fq159_
    obtain rfl := Option.some.inj hq160_
    exact con_pc (op := true) (I := [115, 143, 95, 132]) (sp := chkClamp_sp) 3000 (bT 7 (bF 5 (bT 1 (bF 6 (bT 1 (bF 5 (bT 6 []))))))) [iD r0, iD r1, iD r70, iD r71, iD r78, iD r79, iD r80] [c_T, c_d b1_, c_d b1_, c_d b1_, c_d b1_, c_T, c_le 0, c_le 1, c_T, c_n b7_, c_n b7_, c_n b7_, c_n b7_, c_n bq1_, c_T, c_n bq45_, c_n bq45_, c_n bq45_, c_n bq45_, c_n bq89_, c_F, c_le 0, c_le 1, c_T, c_n bq137_, c_n bq137_, c_n bq137_, c_n bq137_, c_n bq145_, c_T, c_d bq153_, c_d bq153_, c_d bq153_, c_d bq153_, c_T, c_le 0, c_le 1, c_le 2] [k_c f3_, k_c f5_, k_c fq133_, k_c fq135_, k_c fq155_, k_c fq157_, k_c fq159_] (by kernel_rfl)
  have hq154_ := (if_neg bq153_).symm.trans hq146_
  by_cases bq161_ : pf > (10000 : Int)
  · have hq162_ := (if_pos bq161_).symm.trans hq154_
    obtain ⟨r81, fq163_, hq164_⟩ := pullD_elim hq162_
    replace fq163_ := m_102_ok fq163_
    obtain ⟨r82, fq165_, hq166_⟩ := pullD_elim hq164_
    replace fq165_ := m_83_ok fq165_
    obtain ⟨r83, fq167_, hq168_⟩ := pullD_elim hq166_
    replace fq167_ := m_83_ok fq167_
    obtain rfl := Option.some.inj hq168_
    exact con_pc (op := true) (I := [115, 143, 95, 132]) (sp := chkClamp_sp) 3000 (bT 7 (bF 5 (bT 1 (bF 6 (bT 1 (bF 5 (bT 1 (bF 4 (bT 1 []))))))))) [iD r0, iD r1, iD r70, iD r71, iD r81, iD r82, iD r83] [c_T, c_d b1_, c_d b1_, c_d b1_, c_d b1_, c_T, c_le 0, c_le 1, c_T, c_n b7_, c_n b7_, c_n b7_, c_n b7_, c_n bq1_, c_T, c_n bq45_, c_n bq45_, c_n bq45_, c_n bq45_, c_n bq89_, c_F, c_le 0, c_le 1, c_T, c_n bq137_, c_n bq137_, c_n bq137_, c_n bq137_, c_n bq145_, c_T, c_n bq153_, c_n bq153_, c_n bq153_, c_n bq153_, c_d bq161_, c_le 0, c_le 1, c_le 2] [k_c f3_, k_c f5_, k_c fq133_, k_c fq135_, k_c fq163_, k_c fq165_, k_c fq167_] (by kernel_rfl)
  have hq162_ := (if_neg bq161_).symm.trans hq154_
  obtain ⟨r84, fq169_, hq170_⟩ := pullD_elim hq162_
  replace fq169_ := m_102_ok fq169_
  obtain ⟨r85, fq171_, hq172_⟩ := pullD_elim hq170_
  replace fq171_ := m_83_ok fq171_
  obtain ⟨r86, fq173_, hq174_⟩ := pullD_elim hq172_
  replace fq173_ := m_83_ok fq173_
  obtain rfl := Option.some.inj hq174_
  exact con_pc (op := true) (I := [115, 143, 95, 132]) (sp := chkClamp_sp) 3000 (bT 7 (bF 5 (bT 1 (bF 6 (bT 1 (bF 5 (bT 1 (bF 6 [])))))))) [iD r0, iD r1, iD r70, iD r71, iD r84, iD r85, iD r86] [c_T, c_d b1_, c_d b1_, c_d b1_, c_d b1_, c_T, c_le 0, c_le 1, c_T, c_n b7_, c_n b7_, c_n b7_, c_n b7_, c_n bq1_, c_T, c_n bq45_, c_n bq45_, c_n bq45_, c_n bq45_, c_n bq89_, c_F, c_le 0, c_le 1, c_T, c_n bq137_, c_n bq137_, c_n bq137_, c_n bq137_, c_n bq145_, c_T, c_n bq153_, c_n bq153_, c_n bq153_, c_n bq153_, c_n bq161_, c_F, c_le 0, c_le 1, c_le 2] [k_c f3_, k_c f5_, k_c fq133_, k_c fq135_, k_c fq169_, k_c fq171_, k_c fq173_] (by kernel_rfl)
theorem chkClamp_M_s2_ok (pa pb pc pd pe pf : Int) (r87 : Int) (r88 : Int) (b1_ : ¬ (pa < (0 : Int))) (b9_ : pa > (1000000000 : Int)) (f11_ : Con 102 [.list 1 [iD pa, iD pb]] (iD r87)) (f13_ : Con 83 [.list 2 [iD (2 : Int), iD r87]] (iD r88)) (b15_ : pc < (0 : Int)) {r : D} (h : chkClamp_M_s2 pa pb pc pd pe pf r87 r88 = some r) : Con 115 [(shNF5_0 pa pb pc pd pe pf)] r := by
  unfold chkClamp_M_s2 at h
  obtain ⟨r89, fq1_, hq2_⟩ := pullD_elim h
  replace fq1_ := m_102_ok fq1_
  obtain ⟨r90, fq3_, hq4_⟩ := pullD_elim hq2_
  replace fq3_ := m_83_ok fq3_
  by_cases bq5_ : pe < (0 : Int)
  · have hq6_ := (if_pos bq5_).symm.trans hq4_
    obtain ⟨r91, fq7_, hq8_⟩ := pullD_elim hq6_
    replace fq7_ := m_102_ok fq7_
    obtain ⟨r92, fq9_, hq10_⟩ := pullD_elim hq8_
    replace fq9_ := m_83_ok fq9_
    obtain ⟨r93, fq11_, hq12_⟩ := pullD_elim hq10_
    replace fq11_ := m_83_ok fq11_
    obtain rfl := Option.some.inj hq12_
    exact con_pc (op := true) (I := [115, 143, 95, 132]) (sp := chkClamp_sp) 3000 (bT 1 (bF 4 (bT 13 []))) [iD r87, iD r88, iD r89, iD r90, iD r91, iD r92, iD r93] [c_T, c_n b1_, c_n b1_, c_n b1_, c_n b1_, c_d b9_, c_le 0, c_le 1, c_T, c_d b15_, c_d b15_, c_d b15_, c_d b15_, c_T, c_le 0, c_le 1, c_T, c_d bq5_, c_d bq5_, c_d bq5_, c_d bq5_, c_T, c_le 0, c_le 1, c_le 2] [k_c f11_, k_c f13_, k_c fq1_, k_c fq3_, k_c fq7_, k_c fq9_, k_c fq11_] (by kernel_rfl)
  have hq6_ := (if_neg bq5_).symm.trans hq4_
  by_cases bq13_ : pe > (10000 : Int)
  · have hq14_ := (if_pos bq13_).symm.trans hq6_
    obtain ⟨r94, fq15_, hq16_⟩ := pullD_elim hq14_
    replace fq15_ := m_102_ok fq15_
    obtain ⟨r95, fq17_, hq18_⟩ := pullD_elim hq16_
    replace fq17_ := m_83_ok fq17_
    obtain ⟨r96, fq19_, hq20_⟩ := pullD_elim hq18_
    replace fq19_ := m_83_ok fq19_
    obtain rfl := Option.some.inj hq20_
    exact con_pc (op := true) (I := [115, 143, 95, 132]) (sp := chkClamp_sp) 3000 (bT 1 (bF 4 (bT 8 (bF 4 (bT 1 []))))) [iD r87, iD r88, iD r89, iD r90, iD r94, iD r95, iD r96] [c_T, c_n b1_, c_n b1_, c_n b1_, c_n b1_, c_d b9_, c_le 0, c_le 1, c_T, c_d b15_, c_d b15_, c_d b15_, c_d b15_, c_T, c_le 0, c_le 1, c_T, c_n bq5_, c_n bq5_, c_n bq5_, c_n bq5_, c_d bq13_, c_le 0, c_le 1, c_le 2] [k_c f11_, k_c f13_, k_c fq1_, k_c fq3_, k_c fq15_, k_c fq17_, k_c fq19_] (by kernel_rfl)
  have hq14_ := (if_neg bq13_).symm.trans hq6_
  by_cases bq21_ : pf < (0 : Int)
  · have hq22_ := (if_pos bq21_).symm.trans hq14_
    obtain ⟨r97, fq23_, hq24_⟩ := pullD_elim hq22_
    replace fq23_ := m_102_ok fq23_
    obtain ⟨r98, fq25_, hq26_⟩ := pullD_elim hq24_
    replace fq25_ := m_83_ok fq25_
    obtain ⟨r99, fq27_, hq28_⟩ := pullD_elim hq26_
    replace fq27_ := m_83_ok fq27_
    obtain rfl := Option.some.inj hq28_
    exact con_pc (op := true) (I := [115, 143, 95, 132]) (sp := chkClamp_sp) 3000 (bT 1 (bF 4 (bT 8 (bF 5 (bT 6 []))))) [iD r87, iD r88, iD r89, iD r90, iD r97, iD r98, iD r99] [c_T, c_n b1_, c_n b1_, c_n b1_, c_n b1_, c_d b9_, c_le 0, c_le 1, c_T, c_d b15_, c_d b15_, c_d b15_, c_d b15_, c_T, c_le 0, c_le 1, c_T, c_n bq5_, c_n bq5_, c_n bq5_, c_n bq5_, c_n bq13_, c_T, c_d bq21_, c_d bq21_, c_d bq21_, c_d bq21_, c_T, c_le 0, c_le 1, c_le 2] [k_c f11_, k_c f13_, k_c fq1_, k_c fq3_, k_c fq23_, k_c fq25_, k_c fq27_] (by kernel_rfl)
  have hq22_ := (if_neg bq21_).symm.trans hq14_
  by_cases bq29_ : pf > (10000 : Int)
  · have hq30_ := (if_pos bq29_).symm.trans hq22_
    obtain ⟨r100, fq31_, hq32_⟩ := pullD_elim hq30_
    replace fq31_ := m_102_ok fq31_
    obtain ⟨r101, fq33_, hq34_⟩ := pullD_elim hq32_
    replace fq33_ := m_83_ok fq33_
    obtain ⟨r102, fq35_, hq36_⟩ := pullD_elim hq34_
    replace fq35_ := m_83_ok fq35_
    obtain rfl := Option.some.inj hq36_
    exact con_pc (op := true) (I := [115, 143, 95, 132]) (sp := chkClamp_sp) 3000 (bT 1 (bF 4 (bT 8 (bF 5 (bT 1 (bF 4 (bT 1 []))))))) [iD r87, iD r88, iD r89, iD r90, iD r100, iD r101, iD r102] [c_T, c_n b1_, c_n b1_, c_n b1_, c_n b1_, c_d b9_, c_le 0, c_le 1, c_T, c_d b15_, c_d b15_, c_d b15_, c_d b15_, c_T, c_le 0, c_le 1, c_T, c_n bq5_, c_n bq5_, c_n bq5_, c_n bq5_, c_n bq13_, c_T, c_n bq21_, c_n bq21_, c_n bq21_, c_n bq21_, c_d bq29_, c_le 0, c_le 1, c_le 2] [k_c f11_, k_c f13_, k_c fq1_, k_c fq3_, k_c fq31_, k_c fq33_, k_c fq35_] (by kernel_rfl)
  have hq30_ := (if_neg bq29_).symm.trans hq22_
  obtain ⟨r103, fq37_, hq38_⟩ := pullD_elim hq30_
  replace fq37_ := m_102_ok fq37_
  obtain ⟨r104, fq39_, hq40_⟩ := pullD_elim hq38_
  replace fq39_ := m_83_ok fq39_
  obtain ⟨r105, fq41_, hq42_⟩ := pullD_elim hq40_
  replace fq41_ := m_83_ok fq41_
  obtain rfl := Option.some.inj hq42_
  exact con_pc (op := true) (I := [115, 143, 95, 132]) (sp := chkClamp_sp) 3000 (bT 1 (bF 4 (bT 8 (bF 5 (bT 1 (bF 6 [])))))) [iD r87, iD r88, iD r89, iD r90, iD r103, iD r104, iD r105] [c_T, c_n b1_, c_n b1_, c_n b1_, c_n b1_, c_d b9_, c_le 0, c_le 1, c_T, c_d b15_, c_d b15_, c_d b15_, c_d b15_, c_T, c_le 0, c_le 1, c_T, c_n bq5_, c_n bq5_, c_n bq5_, c_n bq5_, c_n bq13_, c_T, c_n bq21_, c_n bq21_, c_n bq21_, c_n bq21_, c_n bq29_, c_F, c_le 0, c_le 1, c_le 2] [k_c f11_, k_c f13_, k_c fq1_, k_c fq3_, k_c fq37_, k_c fq39_, k_c fq41_] (by kernel_rfl)
theorem chkClamp_M_s3_ok (pa pb pc pd pe pf : Int) (r87 : Int) (r88 : Int) (b1_ : ¬ (pa < (0 : Int))) (b9_ : pa > (1000000000 : Int)) (f11_ : Con 102 [.list 1 [iD pa, iD pb]] (iD r87)) (f13_ : Con 83 [.list 2 [iD (2 : Int), iD r87]] (iD r88)) (b15_ : ¬ (pc < (0 : Int))) {r : D} (h : chkClamp_M_s3 pa pb pc pd pe pf r87 r88 = some r) : Con 115 [(shNF5_0 pa pb pc pd pe pf)] r := by
  unfold chkClamp_M_s3 at h
  by_cases bq1_ : pc > (1000 : Int)
  · have hq2_ := (if_pos bq1_).symm.trans h
    obtain ⟨r106, fq3_, hq4_⟩ := pullD_elim hq2_
    replace fq3_ := m_102_ok fq3_
    obtain ⟨r107, fq5_, hq6_⟩ := pullD_elim hq4_
    replace fq5_ := m_83_ok fq5_
    by_cases bq7_ : pe < (0 : Int)
    · have hq8_ := (if_pos bq7_).symm.trans hq6_
      obtain ⟨r108, fq9_, hq10_⟩ := pullD_elim hq8_
      replace fq9_ := m_102_ok fq9_
      obtain ⟨r109, fq11_, hq12_⟩ := pullD_elim hq10_
      replace fq11_ := m_83_ok fq11_
      obtain ⟨r110, fq13_, hq14_⟩ := pullD_elim hq12_
      replace fq13_ := m_83_ok fq13_
      obtain rfl := Option.some.inj hq14_
      exact con_pc (op := true) (I := [115, 143, 95, 132]) (sp := chkClamp_sp) 3000 (bT 1 (bF 4 (bT 2 (bF 4 (bT 7 []))))) [iD r87, iD r88, iD r106, iD r107, iD r108, iD r109, iD r110] [c_T, c_n b1_, c_n b1_, c_n b1_, c_n b1_, c_d b9_, c_le 0, c_le 1, c_T, c_n b15_, c_n b15_, c_n b15_, c_n b15_, c_d bq1_, c_le 0, c_le 1, c_T, c_d bq7_, c_d bq7_, c_d bq7_, c_d bq7_, c_T, c_le 0, c_le 1, c_le 2] [k_c f11_, k_c f13_, k_c fq3_, k_c fq5_, k_c fq9_, k_c fq11_, k_c fq13_] (by kernel_rfl)
    have hq8_ := (if_neg bq7_).symm.trans hq6_
    by_cases bq15_ : pe > (10000 : Int)
    · have hq16_ := (if_pos bq15_).symm.trans hq8_
      obtain ⟨r111, fq17_, hq18_⟩ := pullD_elim hq16_
      replace fq17_ := m_102_ok fq17_
      obtain ⟨r112, fq19_, hq20_⟩ := pullD_elim hq18_
      replace fq19_ := m_83_ok fq19_
      obtain ⟨r113, fq21_, hq22_⟩ := pullD_elim hq20_
      replace fq21_ := m_83_ok fq21_
      obtain rfl := Option.some.inj hq22_
      exact con_pc (op := true) (I := [115, 143, 95, 132]) (sp := chkClamp_sp) 3000 (bT 1 (bF 4 (bT 2 (bF 4 (bT 2 (bF 4 (bT 1 []))))))) [iD r87, iD r88, iD r106, iD r107, iD r111, iD r112, iD r113] [c_T, c_n b1_, c_n b1_, c_n b1_, c_n b1_, c_d b9_, c_le 0, c_le 1, c_T, c_n b15_, c_n b15_, c_n b15_, c_n b15_, c_d bq1_, c_le 0, c_le 1, c_T, c_n bq7_, c_n bq7_, c_n bq7_, c_n bq7_, c_d bq15_, c_le 0, c_le 1, c_le 2] [k_c f11_, k_c f13_, k_c fq3_, k_c fq5_, k_c fq17_, k_c fq19_, k_c fq21_] (by kernel_rfl)
    have hq16_ := (if_neg bq15_).symm.trans hq8_
    by_cases bq23_ : pf < (0 : Int)
    · have hq24_ := (if_pos bq23_).symm.trans hq16_
      obtain ⟨r114, fq25_, hq26_⟩ := pullD_elim hq24_
      replace fq25_ := m_102_ok fq25_
      obtain ⟨r115, fq27_, hq28_⟩ := pullD_elim hq26_
      replace fq27_ := m_83_ok fq27_
      obtain ⟨r116, fq29_, hq30_⟩ := pullD_elim hq28_
      replace fq29_ := m_83_ok fq29_
      obtain rfl := Option.some.inj hq30_
      exact con_pc (op := true) (I := [115, 143, 95, 132]) (sp := chkClamp_sp) 3000 (bT 1 (bF 4 (bT 2 (bF 4 (bT 2 (bF 5 (bT 6 []))))))) [iD r87, iD r88, iD r106, iD r107, iD r114, iD r115, iD r116] [c_T, c_n b1_, c_n b1_, c_n b1_, c_n b1_, c_d b9_, c_le 0, c_le 1, c_T, c_n b15_, c_n b15_, c_n b15_, c_n b15_, c_d bq1_, c_le 0, c_le 1, c_T, c_n bq7_, c_n bq7_, c_n bq7_, c_n bq7_, c_n bq15_, c_T, c_d bq23_, c_d bq23_, c_d bq23_, c_d bq23_, c_T, c_le 0, c_le 1, c_le 2] [k_c f11_, k_c f13_, k_c fq3_, k_c fq5_, k_c fq25_, k_c fq27_, k_c fq29_] (by kernel_rfl)
    have hq24_ := (if_neg bq23_).symm.trans hq16_
    by_cases bq31_ : pf > (10000 : Int)
    · have hq32_ := (if_pos bq31_).symm.trans hq24_
      obtain ⟨r117, fq33_, hq34_⟩ := pullD_elim hq32_
      replace fq33_ := m_102_ok fq33_
      obtain ⟨r118, fq35_, hq36_⟩ := pullD_elim hq34_
      replace fq35_ := m_83_ok fq35_
      obtain ⟨r119, fq37_, hq38_⟩ := pullD_elim hq36_
      replace fq37_ := m_83_ok fq37_
      obtain rfl := Option.some.inj hq38_
      exact con_pc (op := true) (I := [115, 143, 95, 132]) (sp := chkClamp_sp) 3000 (bT 1 (bF 4 (bT 2 (bF 4 (bT 2 (bF 5 (bT 1 (bF 4 (bT 1 []))))))))) [iD r87, iD r88, iD r106, iD r107, iD r117, iD r118, iD r119] [c_T, c_n b1_, c_n b1_, c_n b1_, c_n b1_, c_d b9_, c_le 0, c_le 1, c_T, c_n b15_, c_n b15_, c_n b15_, c_n b15_, c_d bq1_, c_le 0, c_le 1, c_T, c_n bq7_, c_n bq7_, c_n bq7_, c_n bq7_, c_n bq15_, c_T, c_n bq23_, c_n bq23_, c_n bq23_, c_n bq23_, c_d bq31_, c_le 0, c_le 1, c_le 2] [k_c f11_, k_c f13_, k_c fq3_, k_c fq5_, k_c fq33_, k_c fq35_, k_c fq37_] (by kernel_rfl)
    have hq32_ := (if_neg bq31_).symm.trans hq24_
    obtain ⟨r120, fq39_, hq40_⟩ := pullD_elim hq32_
    replace fq39_ := m_102_ok fq39_
    obtain ⟨r121, fq41_, hq42_⟩ := pullD_elim hq40_
    replace fq41_ := m_83_ok fq41_
    obtain ⟨r122, fq43_, hq44_⟩ := pullD_elim hq42_
    replace fq43_ := m_83_ok fq43_
    obtain rfl := Option.some.inj hq44_
    exact con_pc (op := true) (I := [115, 143, 95, 132]) (sp := chkClamp_sp) 3000 (bT 1 (bF 4 (bT 2 (bF 4 (bT 2 (bF 5 (bT 1 (bF 6 [])))))))) [iD r87, iD r88, iD r106, iD r107, iD r120, iD r121, iD r122] [c_T, c_n b1_, c_n b1_, c_n b1_, c_n b1_, c_d b9_, c_le 0, c_le 1, c_T, c_n b15_, c_n b15_, c_n b15_, c_n b15_, c_d bq1_, c_le 0, c_le 1, c_T, c_n bq7_, c_n bq7_, c_n bq7_, c_n bq7_, c_n bq15_, c_T, c_n bq23_, c_n bq23_, c_n bq23_, c_n bq23_, c_n bq31_, c_F, c_le 0, c_le 1, c_le 2] [k_c f11_, k_c f13_, k_c fq3_, k_c fq5_, k_c fq39_, k_c fq41_, k_c fq43_] (by kernel_rfl)
  have hq2_ := (if_neg bq1_).symm.trans h
  by_cases bq45_ : pd < (0 : Int)
  · have hq46_ := (if_pos bq45_).symm.trans hq2_
    obtain ⟨r123, fq47_, hq48_⟩ := pullD_elim hq46_
    replace fq47_ := m_102_ok fq47_
    obtain ⟨r124, fq49_, hq50_⟩ := pullD_elim hq48_
    replace fq49_ := m_83_ok fq49_
    by_cases bq51_ : pe < (0 : Int)
    · have hq52_ := (if_pos bq51_).symm.trans hq50_
      obtain ⟨r125, fq53_, hq54_⟩ := pullD_elim hq52_
      replace fq53_ := m_102_ok fq53_
      obtain ⟨r126, fq55_, hq56_⟩ := pullD_elim hq54_
      replace fq55_ := m_83_ok fq55_
      obtain ⟨r127, fq57_, hq58_⟩ := pullD_elim hq56_
      replace fq57_ := m_83_ok fq57_
      obtain rfl := Option.some.inj hq58_
      exact con_pc (op := true) (I := [115, 143, 95, 132]) (sp := chkClamp_sp) 3000 (bT 1 (bF 4 (bT 2 (bF 5 (bT 12 []))))) [iD r87, iD r88, iD r123, iD r124, iD r125, iD r126, iD r127] [c_T, c_n b1_, c_n b1_, c_n b1_, c_n b1_, c_d b9_, c_le 0, c_le 1, c_T, c_n b15_, c_n b15_, c_n b15_, c_n b15_, c_n bq1_, c_T, c_d bq45_, c_d bq45_, c_d bq45_, c_d bq45_, c_T, c_le 0, c_le 1, c_T, c_d bq51_, c_d bq51_, c_d bq51_, c_d bq51_, c_T, c_le 0, c_le 1, c_le 2] [k_c f11_, k_c f13_, k_c fq47_, k_c fq49_, k_c fq53_, k_c fq55_, k_c fq57_] (by kernel_rfl)
    have hq52_ := (if_neg bq51_).symm.trans hq50_
    by_cases bq59_ : pe > (10000 : Int)
    · have hq60_ := (if_pos bq59_).symm.trans hq52_
      obtain ⟨r128, fq61_, hq62_⟩ := pullD_elim hq60_
      replace fq61_ := m_102_ok fq61_
      obtain ⟨r129, fq63_, hq64_⟩ := pullD_elim hq62_
      replace fq63_ := m_83_ok fq63_
      obtain ⟨r130, fq65_, hq66_⟩ := pullD_elim hq64_
      replace fq65_ := m_83_ok fq65_
      obtain rfl := Option.some.inj hq66_
      exact con_pc (op := true) (I := [115, 143, 95, 132]) (sp := chkClamp_sp) 3000 (bT 1 (bF 4 (bT 2 (bF 5 (bT 7 (bF 4 (bT 1 []))))))) [iD r87, iD r88, iD r123, iD r124, iD r128, iD r129, iD r130] [c_T, c_n b1_, c_n b1_, c_n b1_, c_n b1_, c_d b9_, c_le 0, c_le 1, c_T, c_n b15_, c_n b15_, c_n b15_, c_n b15_, c_n bq1_, c_T, c_d bq45_, c_d bq45_, c_d bq45_, c_d bq45_, c_T, c_le 0, c_le 1, c_T, c_n bq51_, c_n bq51_, c_n bq51_, c_n bq51_, c_d bq59_, c_le 0, c_le 1, c_le 2] [k_c f11_, k_c f13_, k_c fq47_, k_c fq49_, k_c fq61_, k_c fq63_, k_c fq65_] (by kernel_rfl)
    have hq60_ := (if_neg bq59_).symm.trans hq52_
    by_cases bq67_ : pf < (0 : Int)
    · have hq68_ := (if_pos bq67_).symm.trans hq60_
      obtain ⟨r131, fq69_, hq70_⟩ := pullD_elim hq68_
      replace fq69_ := m_102_ok fq69_
      obtain ⟨r132, fq71_, hq72_⟩ := pullD_elim hq70_
      replace fq71_ := m_83_ok fq71_
      obtain ⟨r133, fq73_, hq74_⟩ := pullD_elim hq72_
      replace fq73_ := m_83_ok fq73_
      obtain rfl := Option.some.inj hq74_
      exact con_pc (op := true) (I := [115, 143, 95, 132]) (sp := chkClamp_sp) 3000 (bT 1 (bF 4 (bT 2 (bF 5 (bT 7 (bF 5 (bT 6 []))))))) [iD r87, iD r88, iD r123, iD r124, iD r131, iD r132, iD r133] [c_T, c_n b1_, c_n b1_, c_n b1_, c_n b1_, c_d b9_, c_le 0, c_le 1, c_T, c_n b15_, c_n b15_, c_n b15_, c_n b15_, c_n bq1_, c_T, c_d bq45_, c_d bq45_, c_d bq45_, c_d bq45_, c_T, c_le 0, c_le 1, c_T, c_n bq51_, c_n bq51_, c_n bq51_, c_n bq51_, c_n bq59_, c_T, c_d bq67_, c_d bq67_, c_d bq67_, c_d bq67_, c_T, c_le 0, c_le 1, c_le 2] [k_c f11_, k_c f13_, k_c fq47_, k_c fq49_, k_c fq69_, k_c fq71_, k_c fq73_] (by kernel_rfl)
    have hq68_ := (if_neg bq67_).symm.trans hq60_
    by_cases bq75_ : pf > (10000 : Int)
    · have hq76_ := (if_pos bq75_).symm.trans hq68_
      obtain ⟨r134, fq77_, hq78_⟩ := pullD_elim hq76_
      replace fq77_ := m_102_ok fq77_
      obtain ⟨r135, fq79_, hq80_⟩ := pullD_elim hq78_
      replace fq79_ := m_83_ok fq79_
      obtain ⟨r136, fq81_, hq82_⟩ := pullD_elim hq80_
      replace fq81_ := m_83_ok fq81_
      obtain rfl := Option.some.inj hq82_
      exact con_pc (op := true) (I := [115, 143, 95, 132]) (sp := chkClamp_sp) 3000 (bT 1 (bF 4 (bT 2 (bF 5 (bT 7 (bF 5 (bT 1 (bF 4 (bT 1 []))))))))) [iD r87, iD r88, iD r123, iD r124, iD r134, iD r135, iD r136] [c_T, c_n b1_, c_n b1_, c_n b1_, c_n b1_, c_d b9_, c_le 0, c_le 1, c_T, c_n b15_, c_n b15_, c_n b15_, c_n b15_, c_n bq1_, c_T, c_d bq45_, c_d bq45_, c_d bq45_, c_d bq45_, c_T, c_le 0, c_le 1, c_T, c_n bq51_, c_n bq51_, c_n bq51_, c_n bq51_, c_n bq59_, c_T, c_n bq67_, c_n bq67_, c_n bq67_, c_n bq67_, c_d bq75_, c_le 0, c_le 1, c_le 2] [k_c f11_, k_c f13_, k_c fq47_, k_c fq49_, k_c fq77_, k_c fq79_, k_c fq81_] (by kernel_rfl)
    have hq76_ := (if_neg bq75_).symm.trans hq68_
    obtain ⟨r137, fq83_, hq84_⟩ := pullD_elim hq76_
    replace fq83_ := m_102_ok fq83_
    obtain ⟨r138, fq85_, hq86_⟩ := pullD_elim hq84_
    replace fq85_ := m_83_ok fq85_
    obtain ⟨r139, fq87_, hq88_⟩ := pullD_elim hq86_
    replace fq87_ := m_83_ok fq87_
    obtain rfl := Option.some.inj hq88_
    exact con_pc (op := true) (I := [115, 143, 95, 132]) (sp := chkClamp_sp) 3000 (bT 1 (bF 4 (bT 2 (bF 5 (bT 7 (bF 5 (bT 1 (bF 6 [])))))))) [iD r87, iD r88, iD r123, iD r124, iD r137, iD r138, iD r139] [c_T, c_n b1_, c_n b1_, c_n b1_, c_n b1_, c_d b9_, c_le 0, c_le 1, c_T, c_n b15_, c_n b15_, c_n b15_, c_n b15_, c_n bq1_, c_T, c_d bq45_, c_d bq45_, c_d bq45_, c_d bq45_, c_T, c_le 0, c_le 1, c_T, c_n bq51_, c_n bq51_, c_n bq51_, c_n bq51_, c_n bq59_, c_T, c_n bq67_, c_n bq67_, c_n bq67_, c_n bq67_, c_n bq75_, c_F, c_le 0, c_le 1, c_le 2] [k_c f11_, k_c f13_, k_c fq47_, k_c fq49_, k_c fq83_, k_c fq85_, k_c fq87_] (by kernel_rfl)
  have hq46_ := (if_neg bq45_).symm.trans hq2_
  by_cases bq89_ : pd > (1000 : Int)
  · have hq90_ := (if_pos bq89_).symm.trans hq46_
    obtain ⟨r140, fq91_, hq92_⟩ := pullD_elim hq90_
    replace fq91_ := m_102_ok fq91_
    obtain ⟨r141, fq93_, hq94_⟩ := pullD_elim hq92_
    replace fq93_ := m_83_ok fq93_
    by_cases bq95_ : pe < (0 : Int)
    · have hq96_ := (if_pos bq95_).symm.trans hq94_
      obtain ⟨r142, fq97_, hq98_⟩ := pullD_elim hq96_
      replace fq97_ := m_102_ok fq97_
      obtain ⟨r143, fq99_, hq100_⟩ := pullD_elim hq98_
      replace fq99_ := m_83_ok fq99_
      obtain ⟨r144, fq101_, hq102_⟩ := pullD_elim hq100_
      replace fq101_ := m_83_ok fq101_
      obtain rfl := Option.some.inj hq102_
      exact con_pc (op := true) (I := [115, 143, 95, 132]) (sp := chkClamp_sp) 3000 (bT 1 (bF 4 (bT 2 (bF 5 (bT 1 (bF 4 (bT 7 []))))))) [iD r87, iD r88, iD r140, iD r141, iD r142, iD r143, iD r144] [c_T, c_n b1_, c_n b1_, c_n b1_, c_n b1_, c_d b9_, c_le 0, c_le 1, c_T, c_n b15_, c_n b15_, c_n b15_, c_n b15_, c_n bq1_, c_T, c_n bq45_, c_n bq45_, c_n bq45_, c_n bq45_, c_d bq89_, c_le 0, c_le 1, c_T, c_d bq95_, c_d bq95_, c_d bq95_, c_d bq95_, c_T, c_le 0, c_le 1, c_le 2] [k_c f11_, k_c f13_, k_c fq91_, k_c fq93_, k_c fq97_, k_c fq99_, k_c fq101_] (by kernel_rfl)
    have hq96_ := (if_neg bq95_).symm.trans hq94_
    by_cases bq103_ : pe > (10000 : Int)
    · have hq104_ := (if_pos bq103_).symm.trans hq96_
      obtain ⟨r145, fq105_, hq106_⟩ := pullD_elim hq104_
      replace fq105_ := m_102_ok fq105_
      obtain ⟨r146, fq107_, hq108_⟩ := pullD_elim hq106_
      replace fq107_ := m_83_ok fq107_
      obtain ⟨r147, fq109_, hq110_⟩ := pullD_elim hq108_
      replace fq109_ := m_83_ok fq109_
      obtain rfl := Option.some.inj hq110_
      exact con_pc (op := true) (I := [115, 143, 95, 132]) (sp := chkClamp_sp) 3000 (bT 1 (bF 4 (bT 2 (bF 5 (bT 1 (bF 4 (bT 2 (bF 4 (bT 1 []))))))))) [iD r87, iD r88, iD r140, iD r141, iD r145, iD r146, iD r147] [c_T, c_n b1_, c_n b1_, c_n b1_, c_n b1_, c_d b9_, c_le 0, c_le 1, c_T, c_n b15_, c_n b15_, c_n b15_, c_n b15_, c_n bq1_, c_T, c_n bq45_, c_n bq45_, c_n bq45_, c_n bq45_, c_d bq89_, c_le 0, c_le 1, c_T, c_n bq95_, c_n bq95_, c_n bq95_, c_n bq95_, c_d bq103_, c_le 0, c_le 1, c_le 2] [k_c f11_, k_c f13_, k_c fq91_, k_c fq93_, k_c fq105_, k_c fq107_, k_c fq109_] (by kernel_rfl)
    have hq104_ := (if_neg bq103_).symm.trans hq96_
    by_cases bq111_ : pf < (0 : Int)
    · have hq112_ := (if_pos bq111_).symm.trans hq104_
      obtain ⟨r148, fq113_, hq114_⟩ := pullD_elim hq112_
      replace fq113_ := m_102_ok fq113_
      obtain ⟨r149, fq115_, hq116_⟩ := pullD_elim hq114_
      replace fq115_ := m_83_ok fq115_
      obtain ⟨r150, fq117_, hq118_⟩ := pullD_elim hq116_
      replace fq117_ := m_83_ok fq117_
      obtain rfl := Option.some.inj hq118_
      exact con_pc (op := true) (I := [115, 143, 95, 132]) (sp := chkClamp_sp) 3000 (bT 1 (bF 4 (bT 2 (bF 5 (bT 1 (bF 4 (bT 2 (bF 5 (bT 6 []))))))))) [iD r87, iD r88, iD r140, iD r141, iD r148, iD r149, iD r150] [c_T, c_n b1_, c_n b1_, c_n b1_, c_n b1_, c_d b9_, c_le 0, c_le 1, c_T, c_n b15_, c_n b15_, c_n b15_, c_n b15_, c_n bq1_, c_T, c_n bq45_, c_n bq45_, c_n bq45_, c_n bq45_, c_d bq89_, c_le 0, c_le 1, c_T, c_n bq95_, c_n bq95_, c_n bq95_, c_n bq95_, c_n bq103_, c_T, c_d bq111_, c_d bq111_, c_d bq111_, c_d bq111_, c_T, c_le 0, c_le 1, c_le 2] [k_c f11_, k_c f13_, k_c fq91_, k_c fq93_, k_c fq113_, k_c fq115_, k_c fq117_] (by kernel_rfl)
    have hq112_ := (if_neg bq111_).symm.trans hq104_
    by_cases bq119_ : pf > (10000 : Int)
    · have hq120_ := (if_pos bq119_).symm.trans hq112_
      obtain ⟨r151, fq121_, hq122_⟩ := pullD_elim hq120_
      replace fq121_ := m_102_ok fq121_
      obtain ⟨r152, fq123_, hq124_⟩ := pullD_elim hq122_
      replace fq123_ := m_83_ok fq123_
      obtain ⟨r153, fq125_, hq126_⟩ := pullD_elim hq124_
      replace fq125_ := m_83_ok fq125_
      obtain rfl := Option.some.inj hq126_
      exact con_pc (op := true) (I := [115, 143, 95, 132]) (sp := chkClamp_sp) 3000 (bT 1 (bF 4 (bT 2 (bF 5 (bT 1 (bF 4 (bT 2 (bF 5 (bT 1 (bF 4 (bT 1 []))))))))))) [iD r87, iD r88, iD r140, iD r141, iD r151, iD r152, iD r153] [c_T, c_n b1_, c_n b1_, c_n b1_, c_n b1_, c_d b9_, c_le 0, c_le 1, c_T, c_n b15_, c_n b15_, c_n b15_, c_n b15_, c_n bq1_, c_T, c_n bq45_, c_n bq45_, c_n bq45_, c_n bq45_, c_d bq89_, c_le 0, c_le 1, c_T, c_n bq95_, c_n bq95_, c_n bq95_, c_n bq95_, c_n bq103_, c_T, c_n bq111_, c_n bq111_, c_n bq111_, c_n bq111_, c_d bq119_, c_le 0, c_le 1, c_le 2] [k_c f11_, k_c f13_, k_c fq91_, k_c fq93_, k_c fq121_, k_c fq123_, k_c fq125_] (by kernel_rfl)
    have hq120_ := (if_neg bq119_).symm.trans hq112_
    obtain ⟨r154, fq127_, hq128_⟩ := pullD_elim hq120_
    replace fq127_ := m_102_ok fq127_
    obtain ⟨r155, fq129_, hq130_⟩ := pullD_elim hq128_
    replace fq129_ := m_83_ok fq129_
    obtain ⟨r156, fq131_, hq132_⟩ := pullD_elim hq130_
    replace fq131_ := m_83_ok fq131_
    obtain rfl := Option.some.inj hq132_
    exact con_pc (op := true) (I := [115, 143, 95, 132]) (sp := chkClamp_sp) 3000 (bT 1 (bF 4 (bT 2 (bF 5 (bT 1 (bF 4 (bT 2 (bF 5 (bT 1 (bF 6 [])))))))))) [iD r87, iD r88, iD r140, iD r141, iD r154, iD r155, iD r156] [c_T, c_n b1_, c_n b1_, c_n b1_, c_n b1_, c_d b9_, c_le 0, c_le 1, c_T, c_n b15_, c_n b15_, c_n b15_, c_n b15_, c_n bq1_, c_T, c_n bq45_, c_n bq45_, c_n bq45_, c_n bq45_, c_d bq89_, c_le 0, c_le 1, c_T, c_n bq95_, c_n bq95_, c_n bq95_, c_n bq95_, c_n bq103_, c_T, c_n bq111_, c_n bq111_, c_n bq111_, c_n bq111_, c_n bq119_, c_F, c_le 0, c_le 1, c_le 2] [k_c f11_, k_c f13_, k_c fq91_, k_c fq93_, k_c fq127_, k_c fq129_, k_c fq131_] (by kernel_rfl)
  have hq90_ := (if_neg bq89_).symm.trans hq46_
  obtain ⟨r157, fq133_, hq134_⟩ := pullD_elim hq90_
  replace fq133_ := m_102_ok fq133_
  obtain ⟨r158, fq135_, hq136_⟩ := pullD_elim hq134_
  replace fq135_ := m_83_ok fq135_
  by_cases bq137_ : pe < (0 : Int)
  · have hq138_ := (if_pos bq137_).symm.trans hq136_
    obtain ⟨r159, fq139_, hq140_⟩ := pullD_elim hq138_
    replace fq139_ := m_102_ok fq139_
    obtain ⟨r160, fq141_, hq142_⟩ := pullD_elim hq140_
    replace fq141_ := m_83_ok fq141_
    obtain ⟨r161, fq143_, hq144_⟩ := pullD_elim hq142_
    replace fq143_ := m_83_ok fq143_
    obtain rfl := Option.some.inj hq144_
    exact con_pc (op := true) (I := [115, 143, 95, 132]) (sp := chkClamp_sp) 3000 (bT 1 (bF 4 (bT 2 (bF 5 (bT 1 (bF 6 (bT 6 []))))))) [iD r87, iD r88, iD r157, iD r158, iD r159, iD r160, iD r161] [c_T, c_n b1_, c_n b1_, c_n b1_, c_n b1_, c_d b9_, c_le 0, c_le 1, c_T, c_n b15_, c_n b15_, c_n b15_, c_n b15_, c_n bq1_, c_T, c_n bq45_, c_n bq45_, c_n bq45_, c_n bq45_, c_n bq89_, c_F, c_le 0, c_le 1, c_T, c_d bq137_, c_d bq137_, c_d bq137_, c_d bq137_, c_T, c_le 0, c_le 1, c_le 2] [k_c f11_, k_c f13_, k_c fq133_, k_c fq135_, k_c fq139_, k_c fq141_, k_c fq143_] (by kernel_rfl)
  have hq138_ := (if_neg bq137_).symm.trans hq136_
  by_cases bq145_ : pe > (10000 : Int)
  · have hq146_ := (if_pos bq145_).symm.trans hq138_
    obtain ⟨r162, fq147_, hq148_⟩ := pullD_elim hq146_
    replace fq147_ := m_102_ok fq147_
    obtain ⟨r163, fq149_, hq150_⟩ := pullD_elim hq148_
    replace fq149_ := m_83_ok fq149_
    obtain ⟨r164, fq151_, hq152_⟩ := pullD_elim hq150_
    replace fq151_ := m_83_ok fq151_
    obtain rfl := Option.some.inj hq152_
    exact con_pc (op := true) (I := [115, 143, 95, 132]) (sp := chkClamp_sp) 3000 (bT 1 (bF 4 (bT 2 (bF 5 (bT 1 (bF 6 (bT 1 (bF 4 (bT 1 []))))))))) [iD r87, iD r88, iD r157, iD r158, iD r162, iD r163, iD r164] [c_T, c_n b1_, c_n b1_, c_n b1_, c_n b1_, c_d b9_, c_le 0, c_le 1, c_T, c_n b15_, c_n b15_, c_n b15_, c_n b15_, c_n bq1_, c_T, c_n bq45_, c_n bq45_, c_n bq45_, c_n bq45_, c_n bq89_, c_F, c_le 0, c_le 1, c_T, c_n bq137_, c_n bq137_, c_n bq137_, c_n bq137_, c_d bq145_, c_le 0, c_le 1, c_le 2] [k_c f11_, k_c f13_, k_c fq133_, k_c fq135_, k_c fq147_, k_c fq149_, k_c fq151_] (by kernel_rfl)
  have hq146_ := (if_neg bq145_).symm.trans hq138_
  by_cases bq153_ : pf < (0 : Int)
  · have hq154_ := (if_pos bq153_).symm.trans hq146_
    obtain ⟨r165, fq155_, hq156_⟩ := pullD_elim hq154_
    replace fq155_ := m_102_ok fq155_
    obtain ⟨r166, fq157_, hq158_⟩ := pullD_elim hq156_
    replace fq157_ := m_83_ok fq157_
    obtain ⟨r167, fq159_, hq160_⟩ := pullD_elim hq158_
    replace fq159_ := m_83_ok fq159_
    obtain rfl := Option.some.inj hq160_
    exact con_pc (op := true) (I := [115, 143, 95, 132]) (sp := chkClamp_sp) 3000 (bT 1 (bF 4 (bT 2 (bF 5 (bT 1 (bF 6 (bT 1 (bF 5 (bT 6 []))))))))) [iD r87, iD r88, iD r157, iD r158, iD r165, iD r166, iD r167] [c_T, c_n b1_, c_n b1_, c_n b1_, c_n b1_, c_d b9_, c_le 0, c_le 1, c_T, c_n b15_, c_n b15_, c_n b15_, c_n b15_, c_n bq1_, c_T, c_n bq45_, c_n bq45_, c_n bq45_, c_n bq45_, c_n bq89_, c_F, c_le 0, c_le 1, c_T, c_n bq137_, c_n bq137_, c_n bq137_, c_n bq137_, c_n bq145_, c_T, c_d bq153_, c_d bq153_, c_d bq153_, c_d bq153_, c_T, c_le 0, c_le 1, c_le 2] [k_c f11_, k_c f13_, k_c fq133_, k_c fq135_, k_c fq155_, k_c fq157_, k_c fq159_] (by kernel_rfl)
  have hq154_ := (if_neg bq153_).symm.trans hq146_
  by_cases bq161_ : pf > (10000 : Int)
  · have hq162_ := (if_pos bq161_).symm.trans hq154_
    obtain ⟨r168, fq163_, hq164_⟩ := pullD_elim hq162_
    replace fq163_ := m_102_ok fq163_
    obtain ⟨r169, fq165_, hq166_⟩ := pullD_elim hq164_
    replace fq165_ := m_83_ok fq165_
    obtain ⟨r170, fq167_, hq168_⟩ := pullD_elim hq166_
    replace fq167_ := m_83_ok fq167_
    obtain rfl := Option.some.inj hq168_
    exact con_pc (op := true) (I := [115, 143, 95, 132]) (sp := chkClamp_sp) 3000 (bT 1 (bF 4 (bT 2 (bF 5 (bT 1 (bF 6 (bT 1 (bF 5 (bT 1 (bF 4 (bT 1 []))))))))))) [iD r87, iD r88, iD r157, iD r158, iD r168, iD r169, iD r170] [c_T, c_n b1_, c_n b1_, c_n b1_, c_n b1_, c_d b9_, c_le 0, c_le 1, c_T, c_n b15_, c_n b15_, c_n b15_, c_n b15_, c_n bq1_, c_T, c_n bq45_, c_n bq45_, c_n bq45_, c_n bq45_, c_n bq89_, c_F, c_le 0, c_le 1, c_T, c_n bq137_, c_n bq137_, c_n bq137_, c_n bq137_, c_n bq145_, c_T, c_n bq153_, c_n bq153_, c_n bq153_, c_n bq153_, c_d bq161_, c_le 0, c_le 1, c_le 2] [k_c f11_, k_c f13_, k_c fq133_, k_c fq135_, k_c fq163_, k_c fq165_, k_c fq167_] (by kernel_rfl)
  have hq162_ := (if_neg bq161_).symm.trans hq154_
  obtain ⟨r171, fq169_, hq170_⟩ := pullD_elim hq162_
  replace fq169_ := m_102_ok fq169_
  obtain ⟨r172, fq171_, hq172_⟩ := pullD_elim hq170_
  replace fq171_ := m_83_ok fq171_
  obtain ⟨r173, fq173_, hq174_⟩ := pullD_elim hq172_
  replace fq173_ := m_83_ok fq173_
  obtain rfl := Option.some.inj hq174_
  exact con_pc (op := true) (I := [115, 143, 95, 132]) (sp := chkClamp_sp) 3000 (bT 1 (bF 4 (bT 2 (bF 5 (bT 1 (bF 6 (bT 1 (bF 5 (bT 1 (bF 6 [])))))))))) [iD r87, iD r88, iD r157, iD r158, iD r171, iD r172, iD r173] [c_T, c_n b1_, c_n b1_, c_n b1_, c_n b1_, c_d b9_, c_le 0, c_le 1, c_T, c_n b15_, c_n b15_, c_n b15_, c_n b15_, c_n bq1_, c_T, c_n bq45_, c_n bq45_, c_n bq45_, c_n bq45_, c_n bq89_, c_F, c_le 0, c_le 1, c_T, c_n bq137_, c_n bq137_, c_n bq137_, c_n bq137_, c_n bq145_, c_T, c_n bq153_, c_n bq153_, c_n bq153_, c_n bq153_, c_n bq161_, c_F, c_le 0, c_le 1, c_le 2] [k_c f11_, k_c f13_, k_c fq133_, k_c fq135_, k_c fq169_, k_c fq171_, k_c fq173_] (by kernel_rfl)
theorem chkClamp_M_s4_ok (pa pb pc pd pe pf : Int) (r174 : Int) (r175 : Int) (b1_ : ¬ (pa < (0 : Int))) (b9_ : ¬ (pa > (1000000000 : Int))) (b17_ : pb < (0 : Int)) (f19_ : Con 102 [.list 1 [iD pa, iD pb]] (iD r174)) (f21_ : Con 83 [.list 2 [iD (2 : Int), iD r174]] (iD r175)) (b23_ : pc < (0 : Int)) {r : D} (h : chkClamp_M_s4 pa pb pc pd pe pf r174 r175 = some r) : Con 115 [(shNF5_0 pa pb pc pd pe pf)] r := by
  unfold chkClamp_M_s4 at h
  obtain ⟨r176, fq1_, hq2_⟩ := pullD_elim h
  replace fq1_ := m_102_ok fq1_
  obtain ⟨r177, fq3_, hq4_⟩ := pullD_elim hq2_
  replace fq3_ := m_83_ok fq3_
  by_cases bq5_ : pe < (0 : Int)
  · have hq6_ := (if_pos bq5_).symm.trans hq4_
    obtain ⟨r178, fq7_, hq8_⟩ := pullD_elim hq6_
    replace fq7_ := m_102_ok fq7_
    obtain ⟨r179, fq9_, hq10_⟩ := pullD_elim hq8_
    replace fq9_ := m_83_ok fq9_
    obtain ⟨r180, fq11_, hq12_⟩ := pullD_elim hq10_
    replace fq11_ := m_83_ok fq11_
    obtain rfl := Option.some.inj hq12_
    exact con_pc (op := true) (I := [115, 143, 95, 132]) (sp := chkClamp_sp) 3000 (bT 1 (bF 5 (bT 18 []))) [iD r174, iD r175, iD r176, iD r177, iD r178, iD r179, iD r180] [c_T, c_n b1_, c_n b1_, c_n b1_, c_n b1_, c_n b9_, c_T, c_d b17_, c_d b17_, c_d b17_, c_d b17_, c_T, c_le 0, c_le 1, c_T, c_d b23_, c_d b23_, c_d b23_, c_d b23_, c_T, c_le 0, c_le 1, c_T, c_d bq5_, c_d bq5_, c_d bq5_, c_d bq5_, c_T, c_le 0, c_le 1, c_le 2] [k_c f19_, k_c f21_, k_c fq1_, k_c fq3_, k_c fq7_, k_c fq9_, k_c fq11_] (by kernel_rfl)
  have hq6_ := (if_neg bq5_).symm.trans hq4_
  by_cases bq13_ : pe > (10000 : Int)
  · have hq14_ := (if_pos bq13_).symm.trans hq6_
    obtain ⟨r181, fq15_, hq16_⟩ := pullD_elim hq14_
    replace fq15_ := m_102_ok fq15_
    obtain ⟨r182, fq17_, hq18_⟩ := pullD_elim hq16_
    replace fq17_ := m_83_ok fq17_
    obtain ⟨r183, fq19_, hq20_⟩ := pullD_elim hq18_
    replace fq19_ := m_83_ok fq19_
    obtain rfl := Option.some.inj hq20_
    exact con_pc (op := true) (I := [115, 143, 95, 132]) (sp := chkClamp_sp) 3000 (bT 1 (bF 5 (bT 13 (bF 4 (bT 1 []))))) [iD r174, iD r175, iD r176, iD r177, iD r181, iD r182, iD r183] [c_T, c_n b1_, c_n b1_, c_n b1_, c_n b1_, c_n b9_, c_T, c_d b17_, c_d b17_, c_d b17_, c_d b17_, c_T, c_le 0, c_le 1, c_T, c_d b23_, c_d b23_, c_d b23_, c_d b23_, c_T, c_le 0, c_le 1, c_T, c_n bq5_, c_n bq5_, c_n bq5_, c_n bq5_, c_d bq13_, c_le 0, c_le 1, c_le 2] [k_c f19_, k_c f21_, k_c fq1_, k_c fq3_, k_c fq15_, k_c fq17_, k_c fq19_] (by kernel_rfl)
  have hq14_ := (if_neg bq13_).symm.trans hq6_
  by_cases bq21_ : pf < (0 : Int)
  · have hq22_ := (if_pos bq21_).symm.trans hq14_
    obtain ⟨r184, fq23_, hq24_⟩ := pullD_elim hq22_
    replace fq23_ := m_102_ok fq23_
    obtain ⟨r185, fq25_, hq26_⟩ := pullD_elim hq24_
    replace fq25_ := m_83_ok fq25_
    obtain ⟨r186, fq27_, hq28_⟩ := pullD_elim hq26_
    replace fq27_ := m_83_ok fq27_
    obtain rfl := Option.some.inj hq28_
    exact con_pc (op := true) (I := [115, 143, 95, 132]) (sp := chkClamp_sp) 3000 (bT 1 (bF 5 (bT 13 (bF 5 (bT 6 []))))) [iD r174, iD r175, iD r176, iD r177, iD r184, iD r185, iD r186] [c_T, c_n b1_, c_n b1_, c_n b1_, c_n b1_, c_n b9_, c_T, c_d b17_, c_d b17_, c_d b17_, c_d b17_, c_T, c_le 0, c_le 1, c_T, c_d b23_, c_d b23_, c_d b23_, c_d b23_, c_T, c_le 0, c_le 1, c_T, c_n bq5_, c_n bq5_, c_n bq5_, c_n bq5_, c_n bq13_, c_T, c_d bq21_, c_d bq21_, c_d bq21_, c_d bq21_, c_T, c_le 0, c_le 1, c_le 2] [k_c f19_, k_c f21_, k_c fq1_, k_c fq3_, k_c fq23_, k_c fq25_, k_c fq27_] (by kernel_rfl)
  have hq22_ := (if_neg bq21_).symm.trans hq14_
  by_cases bq29_ : pf > (10000 : Int)
  · have hq30_ := (if_pos bq29_).symm.trans hq22_
    obtain ⟨r187, fq31_, hq32_⟩ := pullD_elim hq30_
    replace fq31_ := m_102_ok fq31_
    obtain ⟨r188, fq33_, hq34_⟩ := pullD_elim hq32_
    replace fq33_ := m_83_ok fq33_
    obtain ⟨r189, fq35_, hq36_⟩ := pullD_elim hq34_
    replace fq35_ := m_83_ok fq35_
    obtain rfl := Option.some.inj hq36_
    exact con_pc (op := true) (I := [115, 143, 95, 132]) (sp := chkClamp_sp) 3000 (bT 1 (bF 5 (bT 13 (bF 5 (bT 1 (bF 4 (bT 1 []))))))) [iD r174, iD r175, iD r176, iD r177, iD r187, iD r188, iD r189] [c_T, c_n b1_, c_n b1_, c_n b1_, c_n b1_, c_n b9_, c_T, c_d b17_, c_d b17_, c_d b17_, c_d b17_, c_T, c_le 0, c_le 1, c_T, c_d b23_, c_d b23_, c_d b23_, c_d b23_, c_T, c_le 0, c_le 1, c_T, c_n bq5_, c_n bq5_, c_n bq5_, c_n bq5_, c_n bq13_, c_T, c_n bq21_, c_n bq21_, c_n bq21_, c_n bq21_, c_d bq29_, c_le 0, c_le 1, c_le 2] [k_c f19_, k_c f21_, k_c fq1_, k_c fq3_, k_c fq31_, k_c fq33_, k_c fq35_] (by kernel_rfl)
  have hq30_ := (if_neg bq29_).symm.trans hq22_
  obtain ⟨r190, fq37_, hq38_⟩ := pullD_elim hq30_
  replace fq37_ := m_102_ok fq37_
  obtain ⟨r191, fq39_, hq40_⟩ := pullD_elim hq38_
  replace fq39_ := m_83_ok fq39_
  obtain ⟨r192, fq41_, hq42_⟩ := pullD_elim hq40_
  replace fq41_ := m_83_ok fq41_
  obtain rfl := Option.some.inj hq42_
  exact con_pc (op := true) (I := [115, 143, 95, 132]) (sp := chkClamp_sp) 3000 (bT 1 (bF 5 (bT 13 (bF 5 (bT 1 (bF 6 [])))))) [iD r174, iD r175, iD r176, iD r177, iD r190, iD r191, iD r192] [c_T, c_n b1_, c_n b1_, c_n b1_, c_n b1_, c_n b9_, c_T, c_d b17_, c_d b17_, c_d b17_, c_d b17_, c_T, c_le 0, c_le 1, c_T, c_d b23_, c_d b23_, c_d b23_, c_d b23_, c_T, c_le 0, c_le 1, c_T, c_n bq5_, c_n bq5_, c_n bq5_, c_n bq5_, c_n bq13_, c_T, c_n bq21_, c_n bq21_, c_n bq21_, c_n bq21_, c_n bq29_, c_F, c_le 0, c_le 1, c_le 2] [k_c f19_, k_c f21_, k_c fq1_, k_c fq3_, k_c fq37_, k_c fq39_, k_c fq41_] (by kernel_rfl)
theorem chkClamp_M_s5_ok (pa pb pc pd pe pf : Int) (r174 : Int) (r175 : Int) (b1_ : ¬ (pa < (0 : Int))) (b9_ : ¬ (pa > (1000000000 : Int))) (b17_ : pb < (0 : Int)) (f19_ : Con 102 [.list 1 [iD pa, iD pb]] (iD r174)) (f21_ : Con 83 [.list 2 [iD (2 : Int), iD r174]] (iD r175)) (b23_ : ¬ (pc < (0 : Int))) {r : D} (h : chkClamp_M_s5 pa pb pc pd pe pf r174 r175 = some r) : Con 115 [(shNF5_0 pa pb pc pd pe pf)] r := by
  unfold chkClamp_M_s5 at h
  by_cases bq1_ : pc > (1000 : Int)
  · have hq2_ := (if_pos bq1_).symm.trans h
    obtain ⟨r193, fq3_, hq4_⟩ := pullD_elim hq2_
    replace fq3_ := m_102_ok fq3_
    obtain ⟨r194, fq5_, hq6_⟩ := pullD_elim hq4_
    replace fq5_ := m_83_ok fq5_
    by_cases bq7_ : pe < (0 : Int)
    · have hq8_ := (if_pos bq7_).symm.trans hq6_
      obtain ⟨r195, fq9_, hq10_⟩ := pullD_elim hq8_
      replace fq9_ := m_102_ok fq9_
      obtain ⟨r196, fq11_, hq12_⟩ := pullD_elim hq10_
      replace fq11_ := m_83_ok fq11_
      obtain ⟨r197, fq13_, hq14_⟩ := pullD_elim hq12_
      replace fq13_ := m_83_ok fq13_
      obtain rfl := Option.some.inj hq14_
      exact con_pc (op := true) (I := [115, 143, 95, 132]) (sp := chkClamp_sp) 3000 (bT 1 (bF 5 (bT 7 (bF 4 (bT 7 []))))) [iD r174, iD r175, iD r193, iD r194, iD r195, iD r196, iD r197] [c_T, c_n b1_, c_n b1_, c_n b1_, c_n b1_, c_n b9_, c_T, c_d b17_, c_d b17_, c_d b17_, c_d b17_, c_T, c_le 0, c_le 1, c_T, c_n b23_, c_n b23_, c_n b23_, c_n b23_, c_d bq1_, c_le 0, c_le 1, c_T, c_d bq7_, c_d bq7_, c_d bq7_, c_d bq7_, c_T, c_le 0, c_le 1, c_le 2] [k_c f19_, k_c f21_, k_c fq3_, k_c fq5_, k_c fq9_, k_c fq11_, k_c fq13_] (by kernel_rfl)
    have hq8_ := (if_neg bq7_).symm.trans hq6_
    by_cases bq15_ : pe > (10000 : Int)
    · have hq16_ := (if_pos bq15_).symm.trans hq8_
      obtain ⟨r198, fq17_, hq18_⟩ := pullD_elim hq16_
      replace fq17_ := m_102_ok fq17_
      obtain ⟨r199, fq19_, hq20_⟩ := pullD_elim hq18_
      replace fq19_ := m_83_ok fq19_
      obtain ⟨r200, fq21_, hq22_⟩ := pullD_elim hq20_
      replace fq21_ := m_83_ok fq21_
      obtain rfl := Option.some.inj hq22_
      exact con_pc (op := true) (I := [115, 143, 95, 132]) (sp := chkClamp_sp) 3000 (bT 1 (bF 5 (bT 7 (bF 4 (bT 2 (bF 4 (bT 1 []))))))) [iD r174, iD r175, iD r193, iD r194, iD r198, iD r199, iD r200] [c_T, c_n b1_, c_n b1_, c_n b1_, c_n b1_, c_n b9_, c_T, c_d b17_, c_d b17_, c_d b17_, c_d b17_, c_T, c_le 0, c_le 1, c_T, c_n b23_, c_n b23_, c_n b23_, c_n b23_, c_d bq1_, c_le 0, c_le 1, c_T, c_n bq7_, c_n bq7_, c_n bq7_, c_n bq7_, c_d bq15_, c_le 0, c_le 1, c_le 2] [k_c f19_, k_c f21_, k_c fq3_, k_c fq5_, k_c fq17_, k_c fq19_, k_c fq21_] (by kernel_rfl)
    have hq16_ := (if_neg bq15_).symm.trans hq8_
    by_cases bq23_ : pf < (0 : Int)
    · have hq24_ := (if_pos bq23_).symm.trans hq16_
      obtain ⟨r201, fq25_, hq26_⟩ := pullD_elim hq24_
      replace fq25_ := m_102_ok fq25_
      obtain ⟨r202, fq27_, hq28_⟩ := pullD_elim hq26_
      replace fq27_ := m_83_ok fq27_
      obtain ⟨r203, fq29_, hq30_⟩ := pullD_elim hq28_
      replace fq29_ := m_83_ok fq29_
      obtain rfl := Option.some.inj hq30_
      exact con_pc (op := true) (I := [115, 143, 95, 132]) (sp := chkClamp_sp) 3000 (bT 1 (bF 5 (bT 7 (bF 4 (bT 2 (bF 5 (bT 6 []))))))) [iD r174, iD r175, iD r193, iD r194, iD r201, iD r202, iD r203] [c_T, c_n b1_, c_n b1_, c_n b1_, c_n b1_, c_n b9_, c_T, c_d b17_, c_d b17_, c_d b17_, c_d b17_, c_T, c_le 0, c_le 1, c_T, c_n b23_, c_n b23_, c_n b23_, c_n b23_, c_d bq1_, c_le 0, c_le 1, c_T, c_n bq7_, c_n bq7_, c_n bq7_, c_n bq7_, c_n bq15_, c_T, c_d bq23_, c_d bq23_, c_d bq23_, c_d bq23_, c_T, c_le 0, c_le 1, c_le 2] [k_c f19_, k_c f21_, k_c fq3_, k_c fq5_, k_c fq25_, k_c fq27_, k_c fq29_] (by kernel_rfl)
    have hq24_ := (if_neg bq23_).symm.trans hq16_
    by_cases bq31_ : pf > (10000 : Int)
    · have hq32_ := (if_pos bq31_).symm.trans hq24_
      obtain ⟨r204, fq33_, hq34_⟩ := pullD_elim hq32_
      replace fq33_ := m_102_ok fq33_
      obtain ⟨r205, fq35_, hq36_⟩ := pullD_elim hq34_
      replace fq35_ := m_83_ok fq35_
      obtain ⟨r206, fq37_, hq38_⟩ := pullD_elim hq36_
      replace fq37_ := m_83_ok fq37_
      obtain rfl := Option.some.inj hq38_
      exact con_pc (op := true) (I := [115, 143, 95, 132]) (sp := chkClamp_sp) 3000 (bT 1 (bF 5 (bT 7 (bF 4 (bT 2 (bF 5 (bT 1 (bF 4 (bT 1 []))))))))) [iD r174, iD r175, iD r193, iD r194, iD r204, iD r205, iD r206] [c_T, c_n b1_, c_n b1_, c_n b1_, c_n b1_, c_n b9_, c_T, c_d b17_, c_d b17_, c_d b17_, c_d b17_, c_T, c_le 0, c_le 1, c_T, c_n b23_, c_n b23_, c_n b23_, c_n b23_, c_d bq1_, c_le 0, c_le 1, c_T, c_n bq7_, c_n bq7_, c_n bq7_, c_n bq7_, c_n bq15_, c_T, c_n bq23_, c_n bq23_, c_n bq23_, c_n bq23_, c_d bq31_, c_le 0, c_le 1, c_le 2] [k_c f19_, k_c f21_, k_c fq3_, k_c fq5_, k_c fq33_, k_c fq35_, k_c fq37_] (by kernel_rfl)
    have hq32_ := (if_neg bq31_).symm.trans hq24_
    obtain ⟨r207, fq39_, hq40_⟩ := pullD_elim hq32_
    replace fq39_ := m_102_ok fq39_
    obtain ⟨r208, fq41_, hq42_⟩ := pullD_elim hq40_
    replace fq41_ := m_83_ok fq41_
    obtain ⟨r209, fq43_, hq44_⟩ := pullD_elim hq42_
    replace fq43_ := m_83_ok fq43_
    obtain rfl := Option.some.inj hq44_
    exact con_pc (op := true) (I := [115, 143, 95, 132]) (sp := chkClamp_sp) 3000 (bT 1 (bF 5 (bT 7 (bF 4 (bT 2 (bF 5 (bT 1 (bF 6 [])))))))) [iD r174, iD r175, iD r193, iD r194, iD r207, iD r208, iD r209] [c_T, c_n b1_, c_n b1_, c_n b1_, c_n b1_, c_n b9_, c_T, c_d b17_, c_d b17_, c_d b17_, c_d b17_, c_T, c_le 0, c_le 1, c_T, c_n b23_, c_n b23_, c_n b23_, c_n b23_, c_d bq1_, c_le 0, c_le 1, c_T, c_n bq7_, c_n bq7_, c_n bq7_, c_n bq7_, c_n bq15_, c_T, c_n bq23_, c_n bq23_, c_n bq23_, c_n bq23_, c_n bq31_, c_F, c_le 0, c_le 1, c_le 2] [k_c f19_, k_c f21_, k_c fq3_, k_c fq5_, k_c fq39_, k_c fq41_, k_c fq43_] (by kernel_rfl)
  have hq2_ := (if_neg bq1_).symm.trans h
  by_cases bq45_ : pd < (0 : Int)
  · have hq46_ := (if_pos bq45_).symm.trans hq2_
    obtain ⟨r210, fq47_, hq48_⟩ := pullD_elim hq46_
    replace fq47_ := m_102_ok fq47_
    obtain ⟨r211, fq49_, hq50_⟩ := pullD_elim hq48_
    replace fq49_ := m_83_ok fq49_
    by_cases bq51_ : pe < (0 : Int)
    · have hq52_ := (if_pos bq51_).symm.trans hq50_
      obtain ⟨r212, fq53_, hq54_⟩ := pullD_elim hq52_
      replace fq53_ := m_102_ok fq53_
      obtain ⟨r213, fq55_, hq56_⟩ := pullD_elim hq54_
      replace fq55_ := m_83_ok fq55_
      obtain ⟨r214, fq57_, hq58_⟩ := pullD_elim hq56_
      replace fq57_ := m_83_ok fq57_
      obtain rfl := Option.some.inj hq58_
      exact con_pc (op := true) (I := [115, 143, 95, 132]) (sp := chkClamp_sp) 3000 (bT 1 (bF 5 (bT 7 (bF 5 (bT 12 []))))) [iD r174, iD r175, iD r210, iD r211, iD r212, iD r213, iD r214] [c_T, c_n b1_, c_n b1_, c_n b1_, c_n b1_, c_n b9_, c_T, c_d b17_, c_d b17_, c_d b17_, c_d b17_, c_T, c_le 0, c_le 1, c_T, c_n b23_, c_n b23_, c_n b23_, c_n b23_, c_n bq1_, c_T, c_d bq45_, c_d bq45_, c_d bq45_, c_d bq45_, c_T, c_le 0, c_le 1, c_T, c_d bq51_, c_d bq51_, c_d bq51_, c_d bq51_, c_T, c_le 0, c_le 1, c_le 2] [k_c f19_, k_c f21_, k_c fq47_, k_c fq49_, k_c fq53_, k_c fq55_, k_c fq57_] (by kernel_rfl)
    have hq52_ := (if_neg bq51_).symm.trans hq50_
    by_cases bq59_ : pe > (10000 : Int)
    · have hq60_ := (if_pos bq59_).symm.trans hq52_
      obtain ⟨r215, fq61_, hq62_⟩ := pullD_elim hq60_
      replace fq61_ := m_102_ok fq61_
      obtain ⟨r216, fq63_, hq64_⟩ := pullD_elim hq62_
      replace fq63_ := m_83_ok fq63_
      obtain ⟨r217, fq65_, hq66_⟩ := pullD_elim hq64_
      replace fq65_ := m_83_ok fq65_
      obtain rfl := Option.some.inj hq66_
      exact con_pc (op := true) (I := [115, 143, 95, 132]) (sp := chkClamp_sp) 3000 (bT 1 (bF 5 (bT 7 (bF 5 (bT 7 (bF 4 (bT 1 []))))))) [iD r174, iD r175, iD r210, iD r211, iD r215, iD r216, iD r217] [c_T, c_n b1_, c_n b1_, c_n b1_, c_n b1_, c_n b9_, c_T, c_d b17_, c_d b17_, c_d b17_, c_d b17_, c_T, c_le 0, c_le 1, c_T, c_n b23_, c_n b23_, c_n b23_, c_n b23_, c_n bq1_, c_T, c_d bq45_, c_d bq45_, c_d bq45_, c_d bq45_, c_T, c_le 0, c_le 1, c_T, c_n bq51_, c_n bq51_, c_n bq51_, c_n bq51_, c_d bq59_, c_le 0, c_le 1, c_le 2] [k_c f19_, k_c f21_, k_c fq47_, k_c fq49_, k_c fq61_, k_c fq63_, k_c fq65_] (by kernel_rfl)
    have hq60_ := (if_neg bq59_).symm.trans hq52_
    by_cases bq67_ : pf < (0 : Int)
    · have hq68_ := (if_pos bq67_).symm.trans hq60_
      obtain ⟨r218, fq69_, hq70_⟩ := pullD_elim hq68_
      replace fq69_ := m_102_ok fq69_
      obtain ⟨r219, fq71_, hq72_⟩ := pullD_elim hq70_
      replace fq71_ := m_83_ok fq71_
      obtain ⟨r220, fq73_, hq74_⟩ := pullD_elim hq72_
      replace fq73_ := m_83_ok fq73_
      obtain rfl := Option.some.inj hq74_
      exact con_pc (op := true) (I := [115, 143, 95, 132]) (sp := chkClamp_sp) 3000 (bT 1 (bF 5 (bT 7 (bF 5 (bT 7 (bF 5 (bT 6 []))))))) [iD r174, iD r175, iD r210, iD r211, iD r218, iD r219, iD r220] [c_T, c_n b1_, c_n b1_, c_n b1_, c_n b1_, c_n b9_, c_T, c_d b17_, c_d b17_, c_d b17_, c_d b17_, c_T, c_le 0, c_le 1, c_T, c_n b23_, c_n b23_, c_n b23_, c_n b23_, c_n bq1_, c_T, c_d bq45_, c_d bq45_, c_d bq45_, c_d bq45_, c_T, c_le 0, c_le 1, c_T, c_n bq51_, c_n bq51_, c_n bq51_, c_n bq51_, c_n bq59_, c_T, c_d bq67_, c_d bq67_, c_d bq67_, c_d bq67_, c_T, c_le 0, c_le 1, c_le 2] [k_c f19_, k_c f21_, k_c fq47_, k_c fq49_, k_c fq69_, k_c fq71_, k_c fq73_] (by kernel_rfl)
    have hq68_ := (if_neg bq67_).symm.trans hq60_
    by_cases bq75_ : pf > (10000 : Int)
    · have hq76_ := (if_pos bq75_).symm.trans hq68_
      obtain ⟨r221, fq77_, hq78_⟩ := pullD_elim hq76_
      replace fq77_ := m_102_ok fq77_
      obtain ⟨r222, fq79_, hq80_⟩ := pullD_elim hq78_
      replace fq79_ := m_83_ok fq79_
      obtain ⟨r223, fq81_, hq82_⟩ := pullD_elim hq80_
      replace fq81_ := m_83_ok fq81_
      obtain rfl := Option.some.inj hq82_
      exact con_pc (op := true) (I := [115, 143, 95, 132]) (sp := chkClamp_sp) 3000 (bT 1 (bF 5 (bT 7 (bF 5 (bT 7 (bF 5 (bT 1 (bF 4 (bT 1 []))))))))) [iD r174, iD r175, iD r210, iD r211, iD r221, iD r222, iD r223] [c_T, c_n b1_, c_n b1_, c_n b1_, c_n b1_, c_n b9_, c_T, c_d b17_, c_d b17_, c_d b17_, c_d b17_, c_T, c_le 0, c_le 1, c_T, c_n b23_, c_n b23_, c_n b23_, c_n b23_, c_n bq1_, c_T, c_d bq45_, c_d bq45_, c_d bq45_, c_d bq45_, c_T, c_le 0, c_le 1, c_T, c_n bq51_, c_n bq51_, c_n bq51_, c_n bq51_, c_n bq59_, c_T, c_n bq67_, c_n bq67_, c_n bq67_, c_n bq67_, c_d bq75_, c_le 0, c_le 1, c_le 2] [k_c f19_, k_c f21_, k_c fq47_, k_c fq49_, k_c fq77_, k_c fq79_, k_c fq81_] (by kernel_rfl)
    have hq76_ := (if_neg bq75_).symm.trans hq68_
    obtain ⟨r224, fq83_, hq84_⟩ := pullD_elim hq76_
    replace fq83_ := m_102_ok fq83_
    obtain ⟨r225, fq85_, hq86_⟩ := pullD_elim hq84_
    replace fq85_ := m_83_ok fq85_
    obtain ⟨r226, fq87_, hq88_⟩ := pullD_elim hq86_
    replace fq87_ := m_83_ok fq87_
    obtain rfl := Option.some.inj hq88_
    exact con_pc (op := true) (I := [115, 143, 95, 132]) (sp := chkClamp_sp) 3000 (bT 1 (bF 5 (bT 7 (bF 5 (bT 7 (bF 5 (bT 1 (bF 6 [])))))))) [iD r174, iD r175, iD r210, iD r211, iD r224, iD r225, iD r226] [c_T, c_n b1_, c_n b1_, c_n b1_, c_n b1_, c_n b9_, c_T, c_d b17_, c_d b17_, c_d b17_, c_d b17_, c_T, c_le 0, c_le 1, c_T, c_n b23_, c_n b23_, c_n b23_, c_n b23_, c_n bq1_, c_T, c_d bq45_, c_d bq45_, c_d bq45_, c_d bq45_, c_T, c_le 0, c_le 1, c_T, c_n bq51_, c_n bq51_, c_n bq51_, c_n bq51_, c_n bq59_, c_T, c_n bq67_, c_n bq67_, c_n bq67_, c_n bq67_, c_n bq75_, c_F, c_le 0, c_le 1, c_le 2] [k_c f19_, k_c f21_, k_c fq47_, k_c fq49_, k_c fq83_, k_c fq85_, k_c fq87_] (by kernel_rfl)
  have hq46_ := (if_neg bq45_).symm.trans hq2_
  by_cases bq89_ : pd > (1000 : Int)
  · have hq90_ := (if_pos bq89_).symm.trans hq46_
    obtain ⟨r227, fq91_, hq92_⟩ := pullD_elim hq90_
    replace fq91_ := m_102_ok fq91_
    obtain ⟨r228, fq93_, hq94_⟩ := pullD_elim hq92_
    replace fq93_ := m_83_ok fq93_
    by_cases bq95_ : pe < (0 : Int)
    · have hq96_ := (if_pos bq95_).symm.trans hq94_
      obtain ⟨r229, fq97_, hq98_⟩ := pullD_elim hq96_
      replace fq97_ := m_102_ok fq97_
      obtain ⟨r230, fq99_, hq100_⟩ := pullD_elim hq98_
      replace fq99_ := m_83_ok fq99_
      obtain ⟨r231, fq101_, hq102_⟩ := pullD_elim hq100_
      replace fq101_ := m_83_ok fq101_
      obtain rfl := Option.some.inj hq102_
      exact con_pc (op := true) (I := [115, 143, 95, 132]) (sp := chkClamp_sp) 3000 (bT 1 (bF 5 (bT 7 (bF 5 (bT 1 (bF 4 (bT 7 []))))))) [iD r174, iD r175, iD r227, iD r228, iD r229, iD r230, iD r231] [c_T, c_n b1_, c_n b1_, c_n b1_, c_n b1_, c_n b9_, c_T, c_d b17_, c_d b17_, c_d b17_, c_d b17_, c_T, c_le 0, c_le 1, c_T, c_n b23_, c_n b23_, c_n b23_, c_n b23_, c_n bq1_, c_T, c_n bq45_, c_n bq45_, c_n bq45_, c_n bq45_, c_d bq89_, c_le 0, c_le 1, c_T, c_d bq95_, c_d bq95_, c_d bq95_, c_d bq95_, c_T, c_le 0, c_le 1, c_le 2] [k_c f19_, k_c f21_, k_c fq91_, k_c fq93_, k_c fq97_, k_c fq99_, k_c fq101_] (by kernel_rfl)
    have hq96_ := (if_neg bq95_).symm.trans hq94_
    by_cases bq103_ : pe > (10000 : Int)
    · have hq104_ := (if_pos bq103_).symm.trans hq96_
      obtain ⟨r232, fq105_, hq106_⟩ := pullD_elim hq104_
      replace fq105_ := m_102_ok fq105_
      obtain ⟨r233, fq107_, hq108_⟩ := pullD_elim hq106_
      replace fq107_ := m_83_ok fq107_
      obtain ⟨r234, fq109_, hq110_⟩ := pullD_elim hq108_
      replace fq109_ := m_83_ok fq109_
      obtain rfl := Option.some.inj hq110_
      exact con_pc (op := true) (I := [115, 143, 95, 132]) (sp := chkClamp_sp) 3000 (bT 1 (bF 5 (bT 7 (bF 5 (bT 1 (bF 4 (bT 2 (bF 4 (bT 1 []))))))))) [iD r174, iD r175, iD r227, iD r228, iD r232, iD r233, iD r234] [c_T, c_n b1_, c_n b1_, c_n b1_, c_n b1_, c_n b9_, c_T, c_d b17_, c_d b17_, c_d b17_, c_d b17_, c_T, c_le 0, c_le 1, c_T, c_n b23_, c_n b23_, c_n b23_, c_n b23_, c_n bq1_, c_T, c_n bq45_, c_n bq45_, c_n bq45_, c_n bq45_, c_d bq89_, c_le 0, c_le 1, c_T, c_n bq95_, c_n bq95_, c_n bq95_, c_n bq95_, c_d bq103_, c_le 0, c_le 1, c_le 2] [k_c f19_, k_c f21_, k_c fq91_, k_c fq93_, k_c fq105_, k_c fq107_, k_c fq109_] (by kernel_rfl)
    have hq104_ := (if_neg bq103_).symm.trans hq96_
    by_cases bq111_ : pf < (0 : Int)
    · have hq112_ := (if_pos bq111_).symm.trans hq104_
      obtain ⟨r235, fq113_, hq114_⟩ := pullD_elim hq112_
      replace fq113_ := m_102_ok fq113_
      obtain ⟨r236, fq115_, hq116_⟩ := pullD_elim hq114_
      replace fq115_ := m_83_ok fq115_
      obtain ⟨r237, fq117_, hq118_⟩ := pullD_elim hq116_
      replace fq117_ := m_83_ok fq117_
      obtain rfl := Option.some.inj hq118_
      exact con_pc (op := true) (I := [115, 143, 95, 132]) (sp := chkClamp_sp) 3000 (bT 1 (bF 5 (bT 7 (bF 5 (bT 1 (bF 4 (bT 2 (bF 5 (bT 6 []))))))))) [iD r174, iD r175, iD r227, iD r228, iD r235, iD r236, iD r237] [c_T, c_n b1_, c_n b1_, c_n b1_, c_n b1_, c_n b9_, c_T, c_d b17_, c_d b17_, c_d b17_, c_d b17_, c_T, c_le 0, c_le 1, c_T, c_n b23_, c_n b23_, c_n b23_, c_n b23_, c_n bq1_, c_T, c_n bq45_, c_n bq45_, c_n bq45_, c_n bq45_, c_d bq89_, c_le 0, c_le 1, c_T, c_n bq95_, c_n bq95_, c_n bq95_, c_n bq95_, c_n bq103_, c_T, c_d bq111_, c_d bq111_, c_d bq111_, c_d bq111_, c_T, c_le 0, c_le 1, c_le 2] [k_c f19_, k_c f21_, k_c fq91_, k_c fq93_, k_c fq113_, k_c fq115_, k_c fq117_] (by kernel_rfl)
    have hq112_ := (if_neg bq111_).symm.trans hq104_
    by_cases bq119_ : pf > (10000 : Int)
    · have hq120_ := (if_pos bq119_).symm.trans hq112_
      obtain ⟨r238, fq121_, hq122_⟩ := pullD_elim hq120_
      replace fq121_ := m_102_ok fq121_
      obtain ⟨r239, fq123_, hq124_⟩ := pullD_elim hq122_
      replace fq123_ := m_83_ok fq123_
      obtain ⟨r240, fq125_, hq126_⟩ := pullD_elim hq124_
      replace fq125_ := m_83_ok fq125_
      obtain rfl := Option.some.inj hq126_
      exact con_pc (op := true) (I := [115, 143, 95, 132]) (sp := chkClamp_sp) 3000 (bT 1 (bF 5 (bT 7 (bF 5 (bT 1 (bF 4 (bT 2 (bF 5 (bT 1 (bF 4 (bT 1 []))))))))))) [iD r174, iD r175, iD r227, iD r228, iD r238, iD r239, iD r240] [c_T, c_n b1_, c_n b1_, c_n b1_, c_n b1_, c_n b9_, c_T, c_d b17_, c_d b17_, c_d b17_, c_d b17_, c_T, c_le 0, c_le 1, c_T, c_n b23_, c_n b23_, c_n b23_, c_n b23_, c_n bq1_, c_T, c_n bq45_, c_n bq45_, c_n bq45_, c_n bq45_, c_d bq89_, c_le 0, c_le 1, c_T, c_n bq95_, c_n bq95_, c_n bq95_, c_n bq95_, c_n bq103_, c_T, c_n bq111_, c_n bq111_, c_n bq111_, c_n bq111_, c_d bq119_, c_le 0, c_le 1, c_le 2] [k_c f19_, k_c f21_, k_c fq91_, k_c fq93_, k_c fq121_, k_c fq123_, k_c fq125_] (by kernel_rfl)
    have hq120_ := (if_neg bq119_).symm.trans hq112_
    obtain ⟨r241, fq127_, hq128_⟩ := pullD_elim hq120_
    replace fq127_ := m_102_ok fq127_
    obtain ⟨r242, fq129_, hq130_⟩ := pullD_elim hq128_
    replace fq129_ := m_83_ok fq129_
    obtain ⟨r243, fq131_, hq132_⟩ := pullD_elim hq130_
    replace fq131_ := m_83_ok fq131_
    obtain rfl := Option.some.inj hq132_
    exact con_pc (op := true) (I := [115, 143, 95, 132]) (sp := chkClamp_sp) 3000 (bT 1 (bF 5 (bT 7 (bF 5 (bT 1 (bF 4 (bT 2 (bF 5 (bT 1 (bF 6 [])))))))))) [iD r174, iD r175, iD r227, iD r228, iD r241, iD r242, iD r243] [c_T, c_n b1_, c_n b1_, c_n b1_, c_n b1_, c_n b9_, c_T, c_d b17_, c_d b17_, c_d b17_, c_d b17_, c_T, c_le 0, c_le 1, c_T, c_n b23_, c_n b23_, c_n b23_, c_n b23_, c_n bq1_, c_T, c_n bq45_, c_n bq45_, c_n bq45_, c_n bq45_, c_d bq89_, c_le 0, c_le 1, c_T, c_n bq95_, c_n bq95_, c_n bq95_, c_n bq95_, c_n bq103_, c_T, c_n bq111_, c_n bq111_, c_n bq111_, c_n bq111_, c_n bq119_, c_F, c_le 0, c_le 1, c_le 2] [k_c f19_, k_c f21_, k_c fq91_, k_c fq93_, k_c fq127_, k_c fq129_, k_c fq131_] (by kernel_rfl)
  have hq90_ := (if_neg bq89_).symm.trans hq46_
  obtain ⟨r244, fq133_, hq134_⟩ := pullD_elim hq90_
  replace fq133_ := m_102_ok fq133_
  obtain ⟨r245, fq135_, hq136_⟩ := pullD_elim hq134_
  replace fq135_ := m_83_ok fq135_
  by_cases bq137_ : pe < (0 : Int)
  · have hq138_ := (if_pos bq137_).symm.trans hq136_
    obtain ⟨r246, fq139_, hq140_⟩ := pullD_elim hq138_
    replace fq139_ := m_102_ok fq139_
    obtain ⟨r247, fq141_, hq142_⟩ := pullD_elim hq140_
    replace fq141_ := m_83_ok fq141_
    obtain ⟨r248, fq143_, hq144_⟩ := pullD_elim hq142_
    replace fq143_ := m_83_ok fq143_
    obtain rfl := Option.some.inj hq144_
    exact con_pc (op := true) (I := [115, 143, 95, 132]) (sp := chkClamp_sp) 3000 (bT 1 (bF 5 (bT 7 (bF 5 (bT 1 (bF 6 (bT 6 []))))))) [iD r174, iD r175, iD r244, iD r245, iD r246, iD r247, iD r248] [c_T, c_n b1_, c_n b1_, c_n b1_, c_n b1_, c_n b9_, c_T, c_d b17_, c_d b17_, c_d b17_, c_d b17_, c_T, c_le 0, c_le 1, c_T, c_n b23_, c_n b23_, c_n b23_, c_n b23_, c_n bq1_, c_T, c_n bq45_, c_n bq45_, c_n bq45_, c_n bq45_, c_n bq89_, c_F, c_le 0, c_le 1, c_T, c_d bq137_, c_d bq137_, c_d bq137_, c_d bq137_, c_T, c_le 0, c_le 1, c_le 2] [k_c f19_, k_c f21_, k_c fq133_, k_c fq135_, k_c fq139_, k_c fq141_, k_c fq143_] (by kernel_rfl)
  have hq138_ := (if_neg bq137_).symm.trans hq136_
  by_cases bq145_ : pe > (10000 : Int)
  · have hq146_ := (if_pos bq145_).symm.trans hq138_
    obtain ⟨r249, fq147_, hq148_⟩ := pullD_elim hq146_
    replace fq147_ := m_102_ok fq147_
    obtain ⟨r250, fq149_, hq150_⟩ := pullD_elim hq148_
    replace fq149_ := m_83_ok fq149_
    obtain ⟨r251, fq151_, hq152_⟩ := pullD_elim hq150_
    replace fq151_ := m_83_ok fq151_
    obtain rfl := Option.some.inj hq152_
    exact con_pc (op := true) (I := [115, 143, 95, 132]) (sp := chkClamp_sp) 3000 (bT 1 (bF 5 (bT 7 (bF 5 (bT 1 (bF 6 (bT 1 (bF 4 (bT 1 []))))))))) [iD r174, iD r175, iD r244, iD r245, iD r249, iD r250, iD r251] [c_T, c_n b1_, c_n b1_, c_n b1_, c_n b1_, c_n b9_, c_T, c_d b17_, c_d b17_, c_d b17_, c_d b17_, c_T, c_le 0, c_le 1, c_T, c_n b23_, c_n b23_, c_n b23_, c_n b23_, c_n bq1_, c_T, c_n bq45_, c_n bq45_, c_n bq45_, c_n bq45_, c_n bq89_, c_F, c_le 0, c_le 1, c_T, c_n bq137_, c_n bq137_, c_n bq137_, c_n bq137_, c_d bq145_, c_le 0, c_le 1, c_le 2] [k_c f19_, k_c f21_, k_c fq133_, k_c fq135_, k_c fq147_, k_c fq149_, k_c fq151_] (by kernel_rfl)
  have hq146_ := (if_neg bq145_).symm.trans hq138_
  by_cases bq153_ : pf < (0 : Int)
  · have hq154_ := (if_pos bq153_).symm.trans hq146_
    obtain ⟨r252, fq155_, hq156_⟩ := pullD_elim hq154_
    replace fq155_ := m_102_ok fq155_
    obtain ⟨r253, fq157_, hq158_⟩ := pullD_elim hq156_
    replace fq157_ := m_83_ok fq157_
    obtain ⟨r254, fq159_, hq160_⟩ := pullD_elim hq158_
    replace fq159_ := m_83_ok fq159_
    obtain rfl := Option.some.inj hq160_
    exact con_pc (op := true) (I := [115, 143, 95, 132]) (sp := chkClamp_sp) 3000 (bT 1 (bF 5 (bT 7 (bF 5 (bT 1 (bF 6 (bT 1 (bF 5 (bT 6 []))))))))) [iD r174, iD r175, iD r244, iD r245, iD r252, iD r253, iD r254] [c_T, c_n b1_, c_n b1_, c_n b1_, c_n b1_, c_n b9_, c_T, c_d b17_, c_d b17_, c_d b17_, c_d b17_, c_T, c_le 0, c_le 1, c_T, c_n b23_, c_n b23_, c_n b23_, c_n b23_, c_n bq1_, c_T, c_n bq45_, c_n bq45_, c_n bq45_, c_n bq45_, c_n bq89_, c_F, c_le 0, c_le 1, c_T, c_n bq137_, c_n bq137_, c_n bq137_, c_n bq137_, c_n bq145_, c_T, c_d bq153_, c_d bq153_, c_d bq153_, c_d bq153_, c_T, c_le 0, c_le 1, c_le 2] [k_c f19_, k_c f21_, k_c fq133_, k_c fq135_, k_c fq155_, k_c fq157_, k_c fq159_] (by kernel_rfl)
  have hq154_ := (if_neg bq153_).symm.trans hq146_
  by_cases bq161_ : pf > (10000 : Int)
  · have hq162_ := (if_pos bq161_).symm.trans hq154_
    obtain ⟨r255, fq163_, hq164_⟩ := pullD_elim hq162_
    replace fq163_ := m_102_ok fq163_
    obtain ⟨r256, fq165_, hq166_⟩ := pullD_elim hq164_
    replace fq165_ := m_83_ok fq165_
    obtain ⟨r257, fq167_, hq168_⟩ := pullD_elim hq166_
    replace fq167_ := m_83_ok fq167_
    obtain rfl := Option.some.inj hq168_
    exact con_pc (op := true) (I := [115, 143, 95, 132]) (sp := chkClamp_sp) 3000 (bT 1 (bF 5 (bT 7 (bF 5 (bT 1 (bF 6 (bT 1 (bF 5 (bT 1 (bF 4 (bT 1 []))))))))))) [iD r174, iD r175, iD r244, iD r245, iD r255, iD r256, iD r257] [c_T, c_n b1_, c_n b1_, c_n b1_, c_n b1_, c_n b9_, c_T, c_d b17_, c_d b17_, c_d b17_, c_d b17_, c_T, c_le 0, c_le 1, c_T, c_n b23_, c_n b23_, c_n b23_, c_n b23_, c_n bq1_, c_T, c_n bq45_, c_n bq45_, c_n bq45_, c_n bq45_, c_n bq89_, c_F, c_le 0, c_le 1, c_T, c_n bq137_, c_n bq137_, c_n bq137_, c_n bq137_, c_n bq145_, c_T, c_n bq153_, c_n bq153_, c_n bq153_, c_n bq153_, c_d bq161_, c_le 0, c_le 1, c_le 2] [k_c f19_, k_c f21_, k_c fq133_, k_c fq135_, k_c fq163_, k_c fq165_, k_c fq167_] (by kernel_rfl)
  have hq162_ := (if_neg bq161_).symm.trans hq154_
  obtain ⟨r258, fq169_, hq170_⟩ := pullD_elim hq162_
  replace fq169_ := m_102_ok fq169_
  obtain ⟨r259, fq171_, hq172_⟩ := pullD_elim hq170_
  replace fq171_ := m_83_ok fq171_
  obtain ⟨r260, fq173_, hq174_⟩ := pullD_elim hq172_
  replace fq173_ := m_83_ok fq173_
  obtain rfl := Option.some.inj hq174_
  exact con_pc (op := true) (I := [115, 143, 95, 132]) (sp := chkClamp_sp) 3000 (bT 1 (bF 5 (bT 7 (bF 5 (bT 1 (bF 6 (bT 1 (bF 5 (bT 1 (bF 6 [])))))))))) [iD r174, iD r175, iD r244, iD r245, iD r258, iD r259, iD r260] [c_T, c_n b1_, c_n b1_, c_n b1_, c_n b1_, c_n b9_, c_T, c_d b17_, c_d b17_, c_d b17_, c_d b17_, c_T, c_le 0, c_le 1, c_T, c_n b23_, c_n b23_, c_n b23_, c_n b23_, c_n bq1_, c_T, c_n bq45_, c_n bq45_, c_n bq45_, c_n bq45_, c_n bq89_, c_F, c_le 0, c_le 1, c_T, c_n bq137_, c_n bq137_, c_n bq137_, c_n bq137_, c_n bq145_, c_T, c_n bq153_, c_n bq153_, c_n bq153_, c_n bq153_, c_n bq161_, c_F, c_le 0, c_le 1, c_le 2] [k_c f19_, k_c f21_, k_c fq133_, k_c fq135_, k_c fq169_, k_c fq171_, k_c fq173_] (by kernel_rfl)
theorem chkClamp_M_s6_ok (pa pb pc pd pe pf : Int) (r261 : Int) (r262 : Int) (b1_ : ¬ (pa < (0 : Int))) (b9_ : ¬ (pa > (1000000000 : Int))) (b17_ : ¬ (pb < (0 : Int))) (b25_ : pb > (1000000000 : Int)) (f27_ : Con 102 [.list 1 [iD pa, iD pb]] (iD r261)) (f29_ : Con 83 [.list 2 [iD (2 : Int), iD r261]] (iD r262)) (b31_ : pc < (0 : Int)) {r : D} (h : chkClamp_M_s6 pa pb pc pd pe pf r261 r262 = some r) : Con 115 [(shNF5_0 pa pb pc pd pe pf)] r := by
  unfold chkClamp_M_s6 at h
  obtain ⟨r263, fq1_, hq2_⟩ := pullD_elim h
  replace fq1_ := m_102_ok fq1_
  obtain ⟨r264, fq3_, hq4_⟩ := pullD_elim hq2_
  replace fq3_ := m_83_ok fq3_
  by_cases bq5_ : pe < (0 : Int)
  · have hq6_ := (if_pos bq5_).symm.trans hq4_
    obtain ⟨r265, fq7_, hq8_⟩ := pullD_elim hq6_
    replace fq7_ := m_102_ok fq7_
    obtain ⟨r266, fq9_, hq10_⟩ := pullD_elim hq8_
    replace fq9_ := m_83_ok fq9_
    obtain ⟨r267, fq11_, hq12_⟩ := pullD_elim hq10_
    replace fq11_ := m_83_ok fq11_
    obtain rfl := Option.some.inj hq12_
    exact con_pc (op := true) (I := [115, 143, 95, 132]) (sp := chkClamp_sp) 3000 (bT 1 (bF 5 (bT 1 (bF 4 (bT 13 []))))) [iD r261, iD r262, iD r263, iD r264, iD r265, iD r266, iD r267] [c_T, c_n b1_, c_n b1_, c_n b1_, c_n b1_, c_n b9_, c_T, c_n b17_, c_n b17_, c_n b17_, c_n b17_, c_d b25_, c_le 0, c_le 1, c_T, c_d b31_, c_d b31_, c_d b31_, c_d b31_, c_T, c_le 0, c_le 1, c_T, c_d bq5_, c_d bq5_, c_d bq5_, c_d bq5_, c_T, c_le 0, c_le 1, c_le 2] [k_c f27_, k_c f29_, k_c fq1_, k_c fq3_, k_c fq7_, k_c fq9_, k_c fq11_] (by kernel_rfl)
  have hq6_ := (if_neg bq5_).symm.trans hq4_
  by_cases bq13_ : pe > (10000 : Int)
  · have hq14_ := (if_pos bq13_).symm.trans hq6_
    obtain ⟨r268, fq15_, hq16_⟩ := pullD_elim hq14_
    replace fq15_ := m_102_ok fq15_
    obtain ⟨r269, fq17_, hq18_⟩ := pullD_elim hq16_
    replace fq17_ := m_83_ok fq17_
    obtain ⟨r270, fq19_, hq20_⟩ := pullD_elim hq18_
    replace fq19_ := m_83_ok fq19_
    obtain rfl := Option.some.inj hq20_
    exact con_pc (op := true) (I := [115, 143, 95, 132]) (sp := chkClamp_sp) 3000 (bT 1 (bF 5 (bT 1 (bF 4 (bT 8 (bF 4 (bT 1 []))))))) [iD r261, iD r262, iD r263, iD r264, iD r268, iD r269, iD r270] [c_T, c_n b1_, c_n b1_, c_n b1_, c_n b1_, c_n b9_, c_T, c_n b17_, c_n b17_, c_n b17_, c_n b17_, c_d b25_, c_le 0, c_le 1, c_T, c_d b31_, c_d b31_, c_d b31_, c_d b31_, c_T, c_le 0, c_le 1, c_T, c_n bq5_, c_n bq5_, c_n bq5_, c_n bq5_, c_d bq13_, c_le 0, c_le 1, c_le 2] [k_c f27_, k_c f29_, k_c fq1_, k_c fq3_, k_c fq15_, k_c fq17_, k_c fq19_] (by kernel_rfl)
  have hq14_ := (if_neg bq13_).symm.trans hq6_
  by_cases bq21_ : pf < (0 : Int)
  · have hq22_ := (if_pos bq21_).symm.trans hq14_
    obtain ⟨r271, fq23_, hq24_⟩ := pullD_elim hq22_
    replace fq23_ := m_102_ok fq23_
    obtain ⟨r272, fq25_, hq26_⟩ := pullD_elim hq24_
    replace fq25_ := m_83_ok fq25_
    obtain ⟨r273, fq27_, hq28_⟩ := pullD_elim hq26_
    replace fq27_ := m_83_ok fq27_
    obtain rfl := Option.some.inj hq28_
    exact con_pc (op := true) (I := [115, 143, 95, 132]) (sp := chkClamp_sp) 3000 (bT 1 (bF 5 (bT 1 (bF 4 (bT 8 (bF 5 (bT 6 []))))))) [iD r261, iD r262, iD r263, iD r264, iD r271, iD r272, iD r273] [c_T, c_n b1_, c_n b1_, c_n b1_, c_n b1_, c_n b9_, c_T, c_n b17_, c_n b17_, c_n b17_, c_n b17_, c_d b25_, c_le 0, c_le 1, c_T, c_d b31_, c_d b31_, c_d b31_, c_d b31_, c_T, c_le 0, c_le 1, c_T, c_n bq5_, c_n bq5_, c_n bq5_, c_n bq5_, c_n bq13_, c_T, c_d bq21_, c_d bq21_, c_d bq21_, c_d bq21_, c_T, c_le 0, c_le 1, c_le 2] [k_c f27_, k_c f29_, k_c fq1_, k_c fq3_, k_c fq23_, k_c fq25_, k_c fq27_] (by kernel_rfl)
  have hq22_ := (if_neg bq21_).symm.trans hq14_
  by_cases bq29_ : pf > (10000 : Int)
  · have hq30_ := (if_pos bq29_).symm.trans hq22_
    obtain ⟨r274, fq31_, hq32_⟩ := pullD_elim hq30_
    replace fq31_ := m_102_ok fq31_
    obtain ⟨r275, fq33_, hq34_⟩ := pullD_elim hq32_
    replace fq33_ := m_83_ok fq33_
    obtain ⟨r276, fq35_, hq36_⟩ := pullD_elim hq34_
    replace fq35_ := m_83_ok fq35_
    obtain rfl := Option.some.inj hq36_
    exact con_pc (op := true) (I := [115, 143, 95, 132]) (sp := chkClamp_sp) 3000 (bT 1 (bF 5 (bT 1 (bF 4 (bT 8 (bF 5 (bT 1 (bF 4 (bT 1 []))))))))) [iD r261, iD r262, iD r263, iD r264, iD r274, iD r275, iD r276] [c_T, c_n b1_, c_n b1_, c_n b1_, c_n b1_, c_n b9_, c_T, c_n b17_, c_n b17_, c_n b17_, c_n b17_, c_d b25_, c_le 0, c_le 1, c_T, c_d b31_, c_d b31_, c_d b31_, c_d b31_, c_T, c_le 0, c_le 1, c_T, c_n bq5_, c_n bq5_, c_n bq5_, c_n bq5_, c_n bq13_, c_T, c_n bq21_, c_n bq21_, c_n bq21_, c_n bq21_, c_d bq29_, c_le 0, c_le 1, c_le 2] [k_c f27_, k_c f29_, k_c fq1_, k_c fq3_, k_c fq31_, k_c fq33_, k_c fq35_] (by kernel_rfl)
  have hq30_ := (if_neg bq29_).symm.trans hq22_
  obtain ⟨r277, fq37_, hq38_⟩ := pullD_elim hq30_
  replace fq37_ := m_102_ok fq37_
  obtain ⟨r278, fq39_, hq40_⟩ := pullD_elim hq38_
  replace fq39_ := m_83_ok fq39_
  obtain ⟨r279, fq41_, hq42_⟩ := pullD_elim hq40_
  replace fq41_ := m_83_ok fq41_
  obtain rfl := Option.some.inj hq42_
  exact con_pc (op := true) (I := [115, 143, 95, 132]) (sp := chkClamp_sp) 3000 (bT 1 (bF 5 (bT 1 (bF 4 (bT 8 (bF 5 (bT 1 (bF 6 [])))))))) [iD r261, iD r262, iD r263, iD r264, iD r277, iD r278, iD r279] [c_T, c_n b1_, c_n b1_, c_n b1_, c_n b1_, c_n b9_, c_T, c_n b17_, c_n b17_, c_n b17_, c_n b17_, c_d b25_, c_le 0, c_le 1, c_T, c_d b31_, c_d b31_, c_d b31_, c_d b31_, c_T, c_le 0, c_le 1, c_T, c_n bq5_, c_n bq5_, c_n bq5_, c_n bq5_, c_n bq13_, c_T, c_n bq21_, c_n bq21_, c_n bq21_, c_n bq21_, c_n bq29_, c_F, c_le 0, c_le 1, c_le 2] [k_c f27_, k_c f29_, k_c fq1_, k_c fq3_, k_c fq37_, k_c fq39_, k_c fq41_] (by kernel_rfl)
theorem chkClamp_M_s7_ok (pa pb pc pd pe pf : Int) (r261 : Int) (r262 : Int) (b1_ : ¬ (pa < (0 : Int))) (b9_ : ¬ (pa > (1000000000 : Int))) (b17_ : ¬ (pb < (0 : Int))) (b25_ : pb > (1000000000 : Int)) (f27_ : Con 102 [.list 1 [iD pa, iD pb]] (iD r261)) (f29_ : Con 83 [.list 2 [iD (2 : Int), iD r261]] (iD r262)) (b31_ : ¬ (pc < (0 : Int))) {r : D} (h : chkClamp_M_s7 pa pb pc pd pe pf r261 r262 = some r) : Con 115 [(shNF5_0 pa pb pc pd pe pf)] r := by
  unfold chkClamp_M_s7 at h
  by_cases bq1_ : pc > (1000 : Int)
  · have hq2_ := (if_pos bq1_).symm.trans h
    obtain ⟨r280, fq3_, hq4_⟩ := pullD_elim hq2_
    replace fq3_ := m_102_ok fq3_
    obtain ⟨r281, fq5_, hq6_⟩ := pullD_elim hq4_
    replace fq5_ := m_83_ok fq5_
    by_cases bq7_ : pe < (0 : Int)
    · have hq8_ := (if_pos bq7_).symm.trans hq6_
      obtain ⟨r282, fq9_, hq10_⟩ := pullD_elim hq8_
      replace fq9_ := m_102_ok fq9_
      obtain ⟨r283, fq11_, hq12_⟩ := pullD_elim hq10_
      replace fq11_ := m_83_ok fq11_
      obtain ⟨r284, fq13_, hq14_⟩ := pullD_elim hq12_
      replace fq13_ := m_83_ok fq13_
      obtain rfl := Option.some.inj hq14_
      exact con_pc (op := true) (I := [115, 143, 95, 132]) (sp := chkClamp_sp) 3000 (bT 1 (bF 5 (bT 1 (bF 4 (bT 2 (bF 4 (bT 7 []))))))) [iD r261, iD r262, iD r280, iD r281, iD r282, iD r283, iD r284] [c_T, c_n b1_, c_n b1_, c_n b1_, c_n b1_, c_n b9_, c_T, c_n b17_, c_n b17_, c_n b17_, c_n b17_, c_d b25_, c_le 0, c_le 1, c_T, c_n b31_, c_n b31_, c_n b31_, c_n b31_, c_d bq1_, c_le 0, c_le 1, c_T, c_d bq7_, c_d bq7_, c_d bq7_, c_d bq7_, c_T, c_le 0, c_le 1, c_le 2] [k_c f27_, k_c f29_, k_c fq3_, k_c fq5_, k_c fq9_, k_c fq11_, k_c fq13_] (by kernel_rfl)
    have hq8_ := (if_neg bq7_).symm.trans hq6_
    by_cases bq15_ : pe > (10000 : Int)
    · have hq16_ := (if_pos bq15_).symm.trans hq8_
      obtain ⟨r285, fq17_, hq18_⟩ := pullD_elim hq16_
      replace fq17_ := m_102_ok fq17_
      obtain ⟨r286, fq19_, hq20_⟩ := pullD_elim hq18_
      replace fq19_ := m_83_ok fq19_
      obtain ⟨r287, fq21_, hq22_⟩ := pullD_elim hq20_
      replace fq21_ := m_83_ok fq21_
      obtain rfl := Option.some.inj hq22_
      exact con_pc (op := true) (I := [115, 143, 95, 132]) (sp := chkClamp_sp) 3000 (bT 1 (bF 5 (bT 1 (bF 4 (bT 2 (bF 4 (bT 2 (bF 4 (bT 1 []))))))))) [iD r261, iD r262, iD r280, iD r281, iD r285, iD r286, iD r287] [c_T, c_n b1_, c_n b1_, c_n b1_, c_n b1_, c_n b9_, c_T, c_n b17_, c_n b17_, c_n b17_, c_n b17_, c_d b25_, c_le 0, c_le 1, c_T, c_n b31_, c_n b31_, c_n b31_, c_n b31_, c_d bq1_, c_le 0, c_le 1, c_T, c_n bq7_, c_n bq7_, c_n bq7_, c_n bq7_, c_d bq15_, c_le 0, c_le 1, c_le 2] [k_c f27_, k_c f29_, k_c fq3_, k_c fq5_, k_c fq17_, k_c fq19_, k_c fq21_] (by kernel_rfl)
    have hq16_ := (if_neg bq15_).symm.trans hq8_
    by_cases bq23_ : pf < (0 : Int)
    · have hq24_ := (if_pos bq23_).symm.trans hq16_
      obtain ⟨r288, fq25_, hq26_⟩ := pullD_elim hq24_
      replace fq25_ := m_102_ok fq25_
      obtain ⟨r289, fq27_, hq28_⟩ := pullD_elim hq26_
      replace fq27_ := m_83_ok fq27_
      obtain ⟨r290, fq29_, hq30_⟩ := pullD_elim hq28_
      replace fq29_ := m_83_ok fq29_
      obtain rfl := Option.some.inj hq30_
      exact con_pc (op := true) (I := [115, 143, 95, 132]) (sp := chkClamp_sp) 3000 (bT 1 (bF 5 (bT 1 (bF 4 (bT 2 (bF 4 (bT 2 (bF 5 (bT 6 []))))))))) [iD r261, iD r262, iD r280, iD r281, iD r288, iD r289, iD r290] [c_T, c_n b1_, c_n b1_, c_n b1_, c_n b1_, c_n b9_, c_T, c_n b17_, c_n b17_, c_n b17_, c_n b17_, c_d b25_, c_le 0, c_le 1, c_T, c_n b31_, c_n b31_, c_n b31_, c_n b31_, c_d bq1_, c_le 0, c_le 1, c_T, c_n bq7_, c_n bq7_, c_n bq7_, c_n bq7_, c_n bq15_, c_T, c_d bq23_, c_d bq23_, c_d bq23_, c_d bq23_, c_T, c_le 0, c_le 1, c_le 2] [k_c f27_, k_c f29_, k_c fq3_, k_c fq5_, k_c fq25_, k_c fq27_, k_c fq29_] (by kernel_rfl)
    have hq24_ := (if_neg bq23_).symm.trans hq16_
    by_cases bq31_ : pf > (10000 : Int)
    · have hq32_ := (if_pos bq31_).symm.trans hq24_
      obtain ⟨r291, fq33_, hq34_⟩ := pullD_elim hq32_
      replace fq33_ := m_102_ok fq33_
      obtain ⟨r292, fq35_, hq36_⟩ := pullD_elim hq34_
      replace fq35_ := m_83_ok fq35_
      obtain ⟨r293, fq37_, hq38_⟩ := pullD_elim hq36_
      replace fq37_ := m_83_ok fq37_
      obtain rfl := Option.some.inj hq38_
      exact con_pc (op := true) (I := [115, 143, 95, 132]) (sp := chkClamp_sp) 3000 (bT 1 (bF 5 (bT 1 (bF 4 (bT 2 (bF 4 (bT 2 (bF 5 (bT 1 (bF 4 (bT 1 []))))))))))) [iD r261, iD r262, iD r280, iD r281, iD r291, iD r292, iD r293] [c_T, c_n b1_, c_n b1_, c_n b1_, c_n b1_, c_n b9_, c_T, c_n b17_, c_n b17_, c_n b17_, c_n b17_, c_d b25_, c_le 0, c_le 1, c_T, c_n b31_, c_n b31_, c_n b31_, c_n b31_, c_d bq1_, c_le 0, c_le 1, c_T, c_n bq7_, c_n bq7_, c_n bq7_, c_n bq7_, c_n bq15_, c_T, c_n bq23_, c_n bq23_, c_n bq23_, c_n bq23_, c_d bq31_, c_le 0, c_le 1, c_le 2] [k_c f27_, k_c f29_, k_c fq3_, k_c fq5_, k_c fq33_, k_c fq35_, k_c fq37_] (by kernel_rfl)
    have hq32_ := (if_neg bq31_).symm.trans hq24_
    obtain ⟨r294, fq39_, hq40_⟩ := pullD_elim hq32_
    replace fq39_ := m_102_ok fq39_
    obtain ⟨r295, fq41_, hq42_⟩ := pullD_elim hq40_
    replace fq41_ := m_83_ok fq41_
    obtain ⟨r296, fq43_, hq44_⟩ := pullD_elim hq42_
    replace fq43_ := m_83_ok fq43_
    obtain rfl := Option.some.inj hq44_
    exact con_pc (op := true) (I := [115, 143, 95, 132]) (sp := chkClamp_sp) 3000 (bT 1 (bF 5 (bT 1 (bF 4 (bT 2 (bF 4 (bT 2 (bF 5 (bT 1 (bF 6 [])))))))))) [iD r261, iD r262, iD r280, iD r281, iD r294, iD r295, iD r296] [c_T, c_n b1_, c_n b1_, c_n b1_, c_n b1_, c_n b9_, c_T, c_n b17_, c_n b17_, c_n b17_, c_n b17_, c_d b25_, c_le 0, c_le 1, c_T, c_n b31_, c_n b31_, c_n b31_, c_n b31_, c_d bq1_, c_le 0, c_le 1, c_T, c_n bq7_, c_n bq7_, c_n bq7_, c_n bq7_, c_n bq15_, c_T, c_n bq23_, c_n bq23_, c_n bq23_, c_n bq23_, c_n bq31_, c_F, c_le 0, c_le 1, c_le 2] [k_c f27_, k_c f29_, k_c fq3_, k_c fq5_, k_c fq39_, k_c fq41_, k_c fq43_] (by kernel_rfl)
  have hq2_ := (if_neg bq1_).symm.trans h
  by_cases bq45_ : pd < (0 : Int)
  · have hq46_ := (if_pos bq45_).symm.trans hq2_
    obtain ⟨r297, fq47_, hq48_⟩ := pullD_elim hq46_
    replace fq47_ := m_102_ok fq47_
    obtain ⟨r298, fq49_, hq50_⟩ := pullD_elim hq48_
    replace fq49_ := m_83_ok fq49_
    by_cases bq51_ : pe < (0 : Int)
    · have hq52_ := (if_pos bq51_).symm.trans hq50_
      obtain ⟨r299, fq53_, hq54_⟩ := pullD_elim hq52_
      replace fq53_ := m_102_ok fq53_
      obtain ⟨r300, fq55_, hq56_⟩ := pullD_elim hq54_
      replace fq55_ := m_83_ok fq55_
      obtain ⟨r301, fq57_, hq58_⟩ := pullD_elim hq56_
      replace fq57_ := m_83_ok fq57_
      obtain rfl := Option.some.inj hq58_
      exact con_pc (op := true) (I := [115, 143, 95, 132]) (sp := chkClamp_sp) 3000 (bT 1 (bF 5 (bT 1 (bF 4 (bT 2 (bF 5 (bT 12 []))))))) [iD r261, iD r262, iD r297, iD r298, iD r299, iD r300, iD r301] [c_T, c_n b1_, c_n b1_, c_n b1_, c_n b1_, c_n b9_, c_T, c_n b17_, c_n b17_, c_n b17_, c_n b17_, c_d b25_, c_le 0, c_le 1, c_T, c_n b31_, c_n b31_, c_n b31_, c_n b31_, c_n bq1_, c_T, c_d bq45_, c_d bq45_, c_d bq45_, c_d bq45_, c_T, c_le 0, c_le 1, c_T, c_d bq51_, c_d bq51_, c_d bq51_, c_d bq51_, c_T, c_le 0, c_le 1, c_le 2] [k_c f27_, k_c f29_, k_c fq47_, k_c fq49_, k_c fq53_, k_c fq55_, k_c fq57_] (by kernel_rfl)
    have hq52_ := (if_neg bq51_).symm.trans hq50_
    by_cases bq59_ : pe > (10000 : Int)
    · have hq60_ := (if_pos bq59_).symm.trans hq52_
      obtain ⟨r302, fq61_, hq62_⟩ := pullD_elim hq60_
      replace fq61_ := m_102_ok fq61_
      obtain ⟨r303, fq63_, hq64_⟩ := pullD_elim hq62_
      replace fq63_ := m_83_ok fq63_
      obtain ⟨r304, fq65_, hq66_⟩ := pullD_elim hq64_
      replace fq65_ := m_83_ok fq65_
      obtain rfl := Option.some.inj hq66_
      exact con_pc (op := true) (I := [115, 143, 95, 132]) (sp := chkClamp_sp) 3000 (bT 1 (bF 5 (bT 1 (bF 4 (bT 2 (bF 5 (bT 7 (bF 4 (bT 1 []))))))))) [iD r261, iD r262, iD r297, iD r298, iD r302, iD r303, iD r304] [c_T, c_n b1_, c_n b1_, c_n b1_, c_n b1_, c_n b9_, c_T, c_n b17_, c_n b17_, c_n b17_, c_n b17_, c_d b25_, c_le 0, c_le 1, c_T, c_n b31_, c_n b31_, c_n b31_, c_n b31_, c_n bq1_, c_T, c_d bq45_, c_d bq45_, c_d bq45_, c_d bq45_, c_T, c_le 0, c_le 1, c_T, c_n bq51_, c_n bq51_, c_n bq51_, c_n bq51_, c_d bq59_, c_le 0, c_le 1, c_le 2] [k_c f27_, k_c f29_, k_c fq47_, k_c fq49_, k_c fq61_, k_c fq63_, k_c fq65_] (by kernel_rfl)
    have hq60_ := (if_neg bq59_).symm.trans hq52_
    by_cases bq67_ : pf < (0 : Int)
    · have hq68_ := (if_pos bq67_).symm.trans hq60_
      obtain ⟨r305, fq69_, hq70_⟩ := pullD_elim hq68_
      replace fq69_ := m_102_ok fq69_
      obtain ⟨r306, fq71_, hq72_⟩ := pullD_elim hq70_
      replace fq71_ := m_83_ok fq71_
      obtain ⟨r307, fq73_, hq74_⟩ := pullD_elim hq72_
      replace fq73_ := m_83_ok fq73_
      obtain rfl := Option.some.inj hq74_
      exact con_pc (op := true) (I := [115, 143, 95, 132]) (sp := chkClamp_sp) 3000 (bT 1 (bF 5 (bT 1 (bF 4 (bT 2 (bF 5 (bT 7 (bF 5 (bT 6 []))))))))) [iD r261, iD r262, iD r297, iD r298, iD r305, iD r306, iD r307] [c_T, c_n b1_, c_n b1_, c_n b1_, c_n b1_, c_n b9_, c_T, c_n b17_, c_n b17_, c_n b17_, c_n b17_, c_d b25_, c_le 0, c_le 1, c_T, c_n b31_, c_n b31_, c_n b31_, c_n b31_, c_n bq1_, c_T, c_d bq45_, c_d bq45_, c_d bq45_, c_d bq45_, c_T, c_le 0, c_le 1, c_T, c_n bq51_, c_n bq51_, c_n bq51_, c_n bq51_, c_n bq59_, c_T, c_d bq67_, c_d bq67_, c_d bq67_, c_d bq67_, c_T, c_le 0, c_le 1, c_le 2] [k_c f27_, k_c f29_, k_c fq47_, k_c fq49_, k_c fq69_, k_c fq71_, k_c fq73_] (by kernel_rfl)
    have hq68_ := (if_neg bq67_).symm.trans hq60_
    by_cases bq75_ : pf > (10000 : Int)
    · have hq76_ := (if_pos bq75_).symm.trans hq68_
      obtain ⟨r308, fq77_, hq78_⟩ := pullD_elim hq76_
      replace fq77_ := m_102_ok fq77_
      obtain ⟨r309, fq79_, hq80_⟩ := pullD_elim hq78_
      replace fq79_ := m_83_ok fq79_
      obtain ⟨r310, fq81_, hq82_⟩ := pullD_elim hq80_
      replace fq81_ := m_83_ok fq81_
      obtain rfl := Option.some.inj hq82_
      exact con_pc (op := true) (I := [115, 143, 95, 132]) (sp := chkClamp_sp) 3000 (bT 1 (bF 5 (bT 1 (bF 4 (bT 2 (bF 5 (bT 7 (bF 5 (bT 1 (bF 4 (bT 1 []))))))))))) [iD r261, iD r262, iD r297, iD r298, iD r308, iD r309, iD r310] [c_T, c_n b1_, c_n b1_, c_n b1_, c_n b1_, c_n b9_, c_T, c_n b17_, c_n b17_, c_n b17_, c_n b17_, c_d b25_, c_le 0, c_le 1, c_T, c_n b31_, c_n b31_, c_n b31_, c_n b31_, c_n bq1_, c_T, c_d bq45_, c_d bq45_, c_d bq45_, c_d bq45_, c_T, c_le 0, c_le 1, c_T, c_n bq51_, c_n bq51_, c_n bq51_, c_n bq51_, c_n bq59_, c_T, c_n bq67_, c_n bq67_, c_n bq67_, c_n bq67_, c_d bq75_, c_le 0, c_le 1, c_le 2] [k_c f27_, k_c f29_, k_c fq47_, k_c fq49_, k_c fq77_, k_c fq79_, k_c fq81_] (by kernel_rfl)
    have hq76_ := (if_neg bq75_).symm.trans hq68_
    obtain ⟨r311, fq83_, hq84_⟩ := pullD_elim hq76_
    replace fq83_ := m_102_ok fq83_
    obtain ⟨r312, fq85_, hq86_⟩ := pullD_elim hq84_
    replace fq85_ := m_83_ok fq85_
    obtain ⟨r313, fq87_, hq88_⟩ := pullD_elim hq86_
    replace fq87_ := m_83_ok fq87_
    obtain rfl := Option.some.inj hq88_
    exact con_pc (op := true) (I := [115, 143, 95, 132]) (sp := chkClamp_sp) 3000 (bT 1 (bF 5 (bT 1 (bF 4 (bT 2 (bF 5 (bT 7 (bF 5 (bT 1 (bF 6 [])))))))))) [iD r261, iD r262, iD r297, iD r298, iD r311, iD r312, iD r313] [c_T, c_n b1_, c_n b1_, c_n b1_, c_n b1_, c_n b9_, c_T, c_n b17_, c_n b17_, c_n b17_, c_n b17_, c_d b25_, c_le 0, c_le 1, c_T, c_n b31_, c_n b31_, c_n b31_, c_n b31_, c_n bq1_, c_T, c_d bq45_, c_d bq45_, c_d bq45_, c_d bq45_, c_T, c_le 0, c_le 1, c_T, c_n bq51_, c_n bq51_, c_n bq51_, c_n bq51_, c_n bq59_, c_T, c_n bq67_, c_n bq67_, c_n bq67_, c_n bq67_, c_n bq75_, c_F, c_le 0, c_le 1, c_le 2] [k_c f27_, k_c f29_, k_c fq47_, k_c fq49_, k_c fq83_, k_c fq85_, k_c fq87_] (by kernel_rfl)
  have hq46_ := (if_neg bq45_).symm.trans hq2_
  by_cases bq89_ : pd > (1000 : Int)
  · have hq90_ := (if_pos bq89_).symm.trans hq46_
    obtain ⟨r314, fq91_, hq92_⟩ := pullD_elim hq90_
    replace fq91_ := m_102_ok fq91_
    obtain ⟨r315, fq93_, hq94_⟩ := pullD_elim hq92_
    replace fq93_ := m_83_ok fq93_
    by_cases bq95_ : pe < (0 : Int)
    · have hq96_ := (if_pos bq95_).symm.trans hq94_
      obtain ⟨r316, fq97_, hq98_⟩ := pullD_elim hq96_
      replace fq97_ := m_102_ok fq97_
      obtain ⟨r317, fq99_, hq100_⟩ := pullD_elim hq98_
      replace fq99_ := m_83_ok fq99_
      obtain ⟨r318, fq101_, hq102_⟩ := pullD_elim hq100_
      replace fq101_ := m_83_ok fq101_
      obtain rfl := Option.some.inj hq102_
      exact con_pc (op := true) (I := [115, 143, 95, 132]) (sp := chkClamp_sp) 3000 (bT 1 (bF 5 (bT 1 (bF 4 (bT 2 (bF 5 (bT 1 (bF 4 (bT 7 []))))))))) [iD r261, iD r262, iD r314, iD r315, iD r316, iD r317, iD r318] [c_T, c_n b1_, c_n b1_, c_n b1_, c_n b1_, c_n b9_, c_T, c_n b17_, c_n b17_, c_n b17_, c_n b17_, c_d b25_, c_le 0, c_le 1, c_T, c_n b31_, c_n b31_, c_n b31_, c_n b31_, c_n bq1_, c_T, c_n bq45_, c_n bq45_, c_n bq45_, c_n bq45_, c_d bq89_, c_le 0, c_le 1, c_T, c_d bq95_, c_d bq95_, c_d bq95_, c_d bq95_, c_T, c_le 0, c_le 1, c_le 2] [k_c f27_, k_c f29_, k_c fq91_, k_c fq93_, k_c fq97_, k_c fq99_, k_c fq101_] (by kernel_rfl)
    have hq96_ := (if_neg bq95_).symm.trans hq94_
    by_cases bq103_ : pe > (10000 : Int)
    · have hq104_ := (if_pos bq103_).symm.trans hq96_
      obtain ⟨r319, fq105_, hq106_⟩ := pullD_elim hq104_
      replace fq105_ := m_102_ok fq105_
      obtain ⟨r320, fq107_, hq108_⟩ := pullD_elim hq106_
      replace fq107_ := m_83_ok fq107_
      obtain ⟨r321, fq109_, hq110_⟩ := pullD_elim hq108_
      replace fq109_ := m_83_ok fq109_
      obtain rfl := Option.some.inj hq110_
      exact con_pc (op := true) (I := [115, 143, 95, 132]) (sp := chkClamp_sp) 3000 (bT 1 (bF 5 (bT 1 (bF 4 (bT 2 (bF 5 (bT 1 (bF 4 (bT 2 (bF 4 (bT 1 []))))))))))) [iD r261, iD r262, iD r314, iD r315, iD r319, iD r320, iD r321] [c_T, c_n b1_, c_n b1_, c_n b1_, c_n b1_, c_n b9_, c_T, c_n b17_, c_n b17_, c_n b17_, c_n b17_, c_d b25_, c_le 0, c_le 1, c_T, c_n b31_, c_n b31_, c_n b31_, c_n b31_, c_n bq1_, c_T, c_n bq45_, c_n bq45_, c_n bq45_, c_n bq45_, c_d bq89_, c_le 0, c_le 1, c_T, c_n bq95_, c_n bq95_, c_n bq95_, c_n bq95_, c_d bq103_, c_le 0, c_le 1, c_le 2] [k_c f27_, k_c f29_, k_c fq91_, k_c fq93_, k_c fq105_, k_c fq107_, k_c fq109_] (by kernel_rfl)
    have hq104_ := (if_neg bq103_).symm.trans hq96_
    by_cases bq111_ : pf < (0 : Int)
    · have hq112_ := (if_pos bq111_).symm.trans hq104_
      obtain ⟨r322, fq113_, hq114_⟩ := pullD_elim hq112_
      replace fq113_ := m_102_ok fq113_
      obtain ⟨r323, fq115_, hq116_⟩ := pullD_elim hq114_
      replace fq115_ := m_83_ok fq115_
      obtain ⟨r324, fq117_, hq118_⟩ := pullD_elim hq116_
      replace fq117_ := m_83_ok fq117_
      obtain rfl := Option.some.inj hq118_
      exact con_pc (op := true) (I := [115, 143, 95, 132]) (sp := chkClamp_sp) 3000 (bT 1 (bF 5 (bT 1 (bF 4 (bT 2 (bF 5 (bT 1 (bF 4 (bT 2 (bF 5 (bT 6 []))))))))))) [iD r261, iD r262, iD r314, iD r315, iD r322, iD r323, iD r324] [c_T, c_n b1_, c_n b1_, c_n b1_, c_n b1_, c_n b9_, c_T, c_n b17_, c_n b17_, c_n b17_, c_n b17_, c_d b25_, c_le 0, c_le 1, c_T, c_n b31_, c_n b31_, c_n b31_, c_n b31_, c_n bq1_, c_T, c_n bq45_, c_n bq45_, c_n bq45_, c_n bq45_, c_d bq89_, c_le 0, c_le 1, c_T, c_n bq95_, c_n bq95_, c_n bq95_, c_n bq95_, c_n bq103_, c_T, c_d bq111_, c_d bq111_, c_d bq111_, c_d bq111_, c_T, c_le 0, c_le 1, c_le 2] [k_c f27_, k_c f29_, k_c fq91_, k_c fq93_, k_c fq113_, k_c fq115_, k_c fq117_] (by kernel_rfl)
    have hq112_ := (if_neg bq111_).symm.trans hq104_
    by_cases bq119_ : pf > (10000 : Int)
    · have hq120_ := (if_pos bq119_).symm.trans hq112_
      obtain ⟨r325, fq121_, hq122_⟩ := pullD_elim hq120_
      replace fq121_ := m_102_ok fq121_
      obtain ⟨r326, fq123_, hq124_⟩ := pullD_elim hq122_
      replace fq123_ := m_83_ok fq123_
      obtain ⟨r327, fq125_, hq126_⟩ := pullD_elim hq124_
      replace fq125_ := m_83_ok fq125_
      obtain rfl := Option.some.inj hq126_
      exact con_pc (op := true) (I := [115, 143, 95, 132]) (sp := chkClamp_sp) 3000 (bT 1 (bF 5 (bT 1 (bF 4 (bT 2 (bF 5 (bT 1 (bF 4 (bT 2 (bF 5 (bT 1 (bF 4 (bT 1 []))))))))))))) [iD r261, iD r262, iD r314, iD r315, iD r325, iD r326, iD r327] [c_T, c_n b1_, c_n b1_, c_n b1_, c_n b1_, c_n b9_, c_T, c_n b17_, c_n b17_, c_n b17_, c_n b17_, c_d b25_, c_le 0, c_le 1, c_T, c_n b31_, c_n b31_, c_n b31_, c_n b31_, c_n bq1_, c_T, c_n bq45_, c_n bq45_, c_n bq45_, c_n bq45_, c_d bq89_, c_le 0, c_le 1, c_T, c_n bq95_, c_n bq95_, c_n bq95_, c_n bq95_, c_n bq103_, c_T, c_n bq111_, c_n bq111_, c_n bq111_, c_n bq111_, c_d bq119_, c_le 0, c_le 1, c_le 2] [k_c f27_, k_c f29_, k_c fq91_, k_c fq93_, k_c fq121_, k_c fq123_, k_c fq125_] (by kernel_rfl)
    have hq120_ := (if_neg bq119_).symm.trans hq112_
    obtain ⟨r328, fq127_, hq128_⟩ := pullD_elim hq120_
    replace fq127_ := m_102_ok fq127_
    obtain ⟨r329, fq129_, hq130_⟩ := pullD_elim hq128_
    replace fq129_ := m_83_ok fq129_
    obtain ⟨r330, fq131_, hq132_⟩ := pullD_elim hq130_
    replace fq131_ := m_83_ok fq131_
    obtain rfl := Option.some.inj hq132_
    exact con_pc (op := true) (I := [115, 143, 95, 132]) (sp := chkClamp_sp) 3000 (bT 1 (bF 5 (bT 1 (bF 4 (bT 2 (bF 5 (bT 1 (bF 4 (bT 2 (bF 5 (bT 1 (bF 6 [])))))))))))) [iD r261, iD r262, iD r314, iD r315, iD r328, iD r329, iD r330] [c_T, c_n b1_, c_n b1_, c_n b1_, c_n b1_, c_n b9_, c_T, c_n b17_, c_n b17_, c_n b17_, c_n b17_, c_d b25_, c_le 0, c_le 1, c_T, c_n b31_, c_n b31_, c_n b31_, c_n b31_, c_n bq1_, c_T, c_n bq45_, c_n bq45_, c_n bq45_, c_n bq45_, c_d bq89_, c_le 0, c_le 1, c_T, c_n bq95_, c_n bq95_, c_n bq95_, c_n bq95_, c_n bq103_, c_T, c_n bq111_, c_n bq111_, c_n bq111_, c_n bq111_, c_n bq119_, c_F, c_le 0, c_le 1, c_le 2] [k_c f27_, k_c f29_, k_c fq91_, k_c fq93_, k_c fq127_, k_c fq129_, k_c fq131_] (by kernel_rfl)
  have hq90_ := (if_neg bq89_).symm.trans hq46_
  obtain ⟨r331, fq133_, hq134_⟩ := pullD_elim hq90_
  replace fq133_ := m_102_ok fq133_
  obtain ⟨r332, fq135_, hq136_⟩ := pullD_elim hq134_
  replace fq135_ := m_83_ok fq135_
  by_cases bq137_ : pe < (0 : Int)
  · have hq138_ := (if_pos bq137_).symm.trans hq136_
    obtain ⟨r333, fq139_, hq140_⟩ := pullD_elim hq138_
    replace fq139_ := m_102_ok fq139_
    obtain ⟨r334, fq141_, hq142_⟩ := pullD_elim hq140_
    replace fq141_ := m_83_ok fq141_
    obtain ⟨r335, fq143_, hq144_⟩ := pullD_elim hq142_
    replace fq143_ := m_83_ok fq143_
    obtain rfl := Option.some.inj hq144_
    exact con_pc (op := true) (I := [115, 143, 95, 132]) (sp := chkClamp_sp) 3000 (bT 1 (bF 5 (bT 1 (bF 4 (bT 2 (bF 5 (bT 1 (bF 6 (bT 6 []))))))))) [iD r261, iD r262, iD r331, iD r332, iD r333, iD r334, iD r335] [c_T, c_n b1_, c_n b1_, c_n b1_, c_n b1_, c_n b9_, c_T, c_n b17_, c_n b17_, c_n b17_, c_n b17_, c_d b25_, c_le 0, c_le 1, c_T, c_n b31_, c_n b31_, c_n b31_, c_n b31_, c_n bq1_, c_T, c_n bq45_, c_n bq45_, c_n bq45_, c_n bq45_, c_n bq89_, c_F, c_le 0, c_le 1, c_T, c_d bq137_, c_d bq137_, c_d bq137_, c_d bq137_, c_T, c_le 0, c_le 1, c_le 2] [k_c f27_, k_c f29_, k_c fq133_, k_c fq135_, k_c fq139_, k_c fq141_, k_c fq143_] (by kernel_rfl)
  have hq138_ := (if_neg bq137_).symm.trans hq136_
  by_cases bq145_ : pe > (10000 : Int)
  · have hq146_ := (if_pos bq145_).symm.trans hq138_
    obtain ⟨r336, fq147_, hq148_⟩ := pullD_elim hq146_
    replace fq147_ := m_102_ok fq147_
    obtain ⟨r337, fq149_, hq150_⟩ := pullD_elim hq148_
    replace fq149_ := m_83_ok fq149_
    obtain ⟨r338, fq151_, hq152_⟩ := pullD_elim hq150_
    replace fq151_ := m_83_ok fq151_
    obtain rfl := Option.some.inj hq152_
    exact con_pc (op := true) (I := [115, 143, 95, 132]) (sp := chkClamp_sp) 3000 (bT 1 (bF 5 (bT 1 (bF 4 (bT 2 (bF 5 (bT 1 (bF 6 (bT 1 (bF 4 (bT 1 []))))))))))) [iD r261, iD r262, iD r331, iD r332, iD r336, iD r337, iD r338] [c_T, c_n b1_, c_n b1_, c_n b1_, c_n b1_, c_n b9_, c_T, c_n b17_, c_n b17_, c_n b17_, c_n b17_, c_d b25_, c_le 0, c_le 1, c_T, c_n b31_, c_n b31_, c_n b31_, c_n b31_, c_n bq1_, c_T, c_n bq45_, c_n bq45_, c_n bq45_, c_n bq45_, c_n bq89_, c_F, c_le 0, c_le 1, c_T, c_n bq137_, c_n bq137_, c_n bq137_, c_n bq137_, c_d bq145_, c_le 0, c_le 1, c_le 2] [k_c f27_, k_c f29_, k_c fq133_, k_c fq135_, k_c fq147_, k_c fq149_, k_c fq151_] (by kernel_rfl)
  have hq146_ := (if_neg bq145_).symm.trans hq138_
  by_cases bq153_ : pf < (0 : Int)
  · have hq154_ := (if_pos bq153_).symm.trans hq146_
    obtain ⟨r339, fq155_, hq156_⟩ := pullD_elim hq154_
    replace fq155_ := m_102_ok fq155_
    obtain ⟨r340, fq157_, hq158_⟩ := pullD_elim hq156_
    replace fq157_ := m_83_ok fq157_
    obtain ⟨r341, fq159_, hq160_⟩ := pullD_elim hq158_
    replace fq159_ := m_83_ok fq159_
    obtain rfl := Option.some.inj hq160_
    exact con_pc (op := true) (I := [115, 143, 95, 132]) (sp := chkClamp_sp) 3000 (bT 1 (bF 5 (bT 1 (bF 4 (bT 2 (bF 5 (bT 1 (bF 6 (bT 1 (bF 5 (bT 6 []))))))))))) [iD r261, iD r262, iD r331, iD r332, iD r339, iD r340, iD r341] [c_T, c_n b1_, c_n b1_, c_n b1_, c_n b1_, c_n b9_, c_T, c_n b17_, c_n b17_, c_n b17_, c_n b17_, c_d b25_, c_le 0, c_le 1, c_T, c_n b31_, c_n b31_, c_n b31_, c_n b31_, c_n bq1_, c_T, c_n bq45_, c_n bq45_, c_n bq45_, c_n bq45_, c_n bq89_, c_F, c_le 0, c_le 1, c_T, c_n bq137_, c_n bq137_, c_n bq137_, c_n bq137_, c_n bq145_, c_T, c_d bq153_, c_d bq153_, c_d bq153_, c_d bq153_, c_T, c_le 0, c_le 1, c_le 2] [k_c f27_, k_c f29_, k_c fq133_, k_c fq135_, k_c fq155_, k_c fq157_, k_c fq159_] (by kernel_rfl)
  have hq154_ := (if_neg bq153_).symm.trans hq146_
  by_cases bq161_ : pf > (10000 : Int)
  · have hq162_ := (if_pos bq161_).symm.trans hq154_
    obtain ⟨r342, fq163_, hq164_⟩ := pullD_elim hq162_
    replace fq163_ := m_102_ok fq163_
    obtain ⟨r343, fq165_, hq166_⟩ := pullD_elim hq164_
    replace fq165_ := m_83_ok fq165_
    obtain ⟨r344, fq167_, hq168_⟩ := pullD_elim hq166_
    replace fq167_ := m_83_ok fq167_
    obtain rfl := Option.some.inj hq168_
    exact con_pc (op := true) (I := [115, 143, 95, 132]) (sp := chkClamp_sp) 3000 (bT 1 (bF 5 (bT 1 (bF 4 (bT 2 (bF 5 (bT 1 (bF 6 (bT 1 (bF 5 (bT 1 (bF 4 (bT 1 []))))))))))))) [iD r261, iD r262, iD r331, iD r332, iD r342, iD r343, iD r344] [c_T, c_n b1_, c_n b1_, c_n b1_, c_n b1_, c_n b9_, c_T, c_n b17_, c_n b17_, c_n b17_, c_n b17_, c_d b25_, c_le 0, c_le 1, c_T, c_n b31_, c_n b31_, c_n b31_, c_n b31_, c_n bq1_, c_T, c_n bq45_, c_n bq45_, c_n bq45_, c_n bq45_, c_n bq89_, c_F, c_le 0, c_le 1, c_T, c_n bq137_, c_n bq137_, c_n bq137_, c_n bq137_, c_n bq145_, c_T, c_n bq153_, c_n bq153_, c_n bq153_, c_n bq153_, c_d bq161_, c_le 0, c_le 1, c_le 2] [k_c f27_, k_c f29_, k_c fq133_, k_c fq135_, k_c fq163_, k_c fq165_, k_c fq167_] (by kernel_rfl)
  have hq162_ := (if_neg bq161_).symm.trans hq154_
  obtain ⟨r345, fq169_, hq170_⟩ := pullD_elim hq162_
  replace fq169_ := m_102_ok fq169_
  obtain ⟨r346, fq171_, hq172_⟩ := pullD_elim hq170_
  replace fq171_ := m_83_ok fq171_
  obtain ⟨r347, fq173_, hq174_⟩ := pullD_elim hq172_
  replace fq173_ := m_83_ok fq173_
  obtain rfl := Option.some.inj hq174_
  exact con_pc (op := true) (I := [115, 143, 95, 132]) (sp := chkClamp_sp) 3000 (bT 1 (bF 5 (bT 1 (bF 4 (bT 2 (bF 5 (bT 1 (bF 6 (bT 1 (bF 5 (bT 1 (bF 6 [])))))))))))) [iD r261, iD r262, iD r331, iD r332, iD r345, iD r346, iD r347] [c_T, c_n b1_, c_n b1_, c_n b1_, c_n b1_, c_n b9_, c_T, c_n b17_, c_n b17_, c_n b17_, c_n b17_, c_d b25_, c_le 0, c_le 1, c_T, c_n b31_, c_n b31_, c_n b31_, c_n b31_, c_n bq1_, c_T, c_n bq45_, c_n bq45_, c_n bq45_, c_n bq45_, c_n bq89_, c_F, c_le 0, c_le 1, c_T, c_n bq137_, c_n bq137_, c_n bq137_, c_n bq137_, c_n bq145_, c_T, c_n bq153_, c_n bq153_, c_n bq153_, c_n bq153_, c_n bq161_, c_F, c_le 0, c_le 1, c_le 2] [k_c f27_, k_c f29_, k_c fq133_, k_c fq135_, k_c fq169_, k_c fq171_, k_c fq173_] (by kernel_rfl)
theorem chkClamp_M_s8_ok (pa pb pc pd pe pf : Int) (r348 : Int) (r349 : Int) (b1_ : ¬ (pa < (0 : Int))) (b9_ : ¬ (pa > (1000000000 : Int))) (b17_ : ¬ (pb < (0 : Int))) (b25_ : ¬ (pb > (1000000000 : Int))) (f33_ : Con 102 [.list 1 [iD pa, iD pb]] (iD r348)) (f35_ : Con 83 [.list 2 [iD (0 : Int), iD r348]] (iD r349)) (b37_ : pc < (0 : Int)) {r : D} (h : chkClamp_M_s8 pa pb pc pd pe pf r348 r349 = some r) : Con 115 [(shNF5_0 pa pb pc pd pe pf)] r := by
  unfold chkClamp_M_s8 at h
  obtain ⟨r350, fq1_, hq2_⟩ := pullD_elim h
  replace fq1_ := m_102_ok fq1_
  obtain ⟨r351, fq3_, hq4_⟩ := pullD_elim hq2_
  replace fq3_ := m_83_ok fq3_
  by_cases bq5_ : pe < (0 : Int)
  · have hq6_ := (if_pos bq5_).symm.trans hq4_
    obtain ⟨r352, fq7_, hq8_⟩ := pullD_elim hq6_
    replace fq7_ := m_102_ok fq7_
    obtain ⟨r353, fq9_, hq10_⟩ := pullD_elim hq8_
    replace fq9_ := m_83_ok fq9_
    obtain ⟨r354, fq11_, hq12_⟩ := pullD_elim hq10_
    replace fq11_ := m_83_ok fq11_
    obtain rfl := Option.some.inj hq12_
    exact con_pc (op := true) (I := [115, 143, 95, 132]) (sp := chkClamp_sp) 3000 (bT 1 (bF 5 (bT 1 (bF 6 (bT 12 []))))) [iD r348, iD r349, iD r350, iD r351, iD r352, iD r353, iD r354] [c_T, c_n b1_, c_n b1_, c_n b1_, c_n b1_, c_n b9_, c_T, c_n b17_, c_n b17_, c_n b17_, c_n b17_, c_n b25_, c_F, c_le 0, c_le 1, c_T, c_d b37_, c_d b37_, c_d b37_, c_d b37_, c_T, c_le 0, c_le 1, c_T, c_d bq5_, c_d bq5_, c_d bq5_, c_d bq5_, c_T, c_le 0, c_le 1, c_le 2] [k_c f33_, k_c f35_, k_c fq1_, k_c fq3_, k_c fq7_, k_c fq9_, k_c fq11_] (by kernel_rfl)
  have hq6_ := (if_neg bq5_).symm.trans hq4_
  by_cases bq13_ : pe > (10000 : Int)
  · have hq14_ := (if_pos bq13_).symm.trans hq6_
    obtain ⟨r355, fq15_, hq16_⟩ := pullD_elim hq14_
    replace fq15_ := m_102_ok fq15_
    obtain ⟨r356, fq17_, hq18_⟩ := pullD_elim hq16_
    replace fq17_ := m_83_ok fq17_
    obtain ⟨r357, fq19_, hq20_⟩ := pullD_elim hq18_
    replace fq19_ := m_83_ok fq19_
    obtain rfl := Option.some.inj hq20_
    exact con_pc (op := true) (I := [115, 143, 95, 132]) (sp := chkClamp_sp) 3000 (bT 1 (bF 5 (bT 1 (bF 6 (bT 7 (bF 4 (bT 1 []))))))) [iD r348, iD r349, iD r350, iD r351, iD r355, iD r356, iD r357] [c_T, c_n b1_, c_n b1_, c_n b1_, c_n b1_, c_n b9_, c_T, c_n b17_, c_n b17_, c_n b17_, c_n b17_, c_n b25_, c_F, c_le 0, c_le 1, c_T, c_d b37_, c_d b37_, c_d b37_, c_d b37_, c_T, c_le 0, c_le 1, c_T, c_n bq5_, c_n bq5_, c_n bq5_, c_n bq5_, c_d bq13_, c_le 0, c_le 1, c_le 2] [k_c f33_, k_c f35_, k_c fq1_, k_c fq3_, k_c fq15_, k_c fq17_, k_c fq19_] (by kernel_rfl)
  have hq14_ := (if_neg bq13_).symm.trans hq6_
  by_cases bq21_ : pf < (0 : Int)
  · have hq22_ := (if_pos bq21_).symm.trans hq14_
    obtain ⟨r358, fq23_, hq24_⟩ := pullD_elim hq22_
    replace fq23_ := m_102_ok fq23_
    obtain ⟨r359, fq25_, hq26_⟩ := pullD_elim hq24_
    replace fq25_ := m_83_ok fq25_
    obtain ⟨r360, fq27_, hq28_⟩ := pullD_elim hq26_
    replace fq27_ := m_83_ok fq27_
    obtain rfl := Option.some.inj hq28_
    exact con_pc (op := true) (I := [115, 143, 95, 132]) (sp := chkClamp_sp) 3000 (bT 1 (bF 5 (bT 1 (bF 6 (bT 7 (bF 5 (bT 6 []))))))) [iD r348, iD r349, iD r350, iD r351, iD r358, iD r359, iD r360] [c_T, c_n b1_, c_n b1_, c_n b1_, c_n b1_, c_n b9_, c_T, c_n b17_, c_n b17_, c_n b17_, c_n b17_, c_n b25_, c_F, c_le 0, c_le 1, c_T, c_d b37_, c_d b37_, c_d b37_, c_d b37_, c_T, c_le 0, c_le 1, c_T, c_n bq5_, c_n bq5_, c_n bq5_, c_n bq5_, c_n bq13_, c_T, c_d bq21_, c_d bq21_, c_d bq21_, c_d bq21_, c_T, c_le 0, c_le 1, c_le 2] [k_c f33_, k_c f35_, k_c fq1_, k_c fq3_, k_c fq23_, k_c fq25_, k_c fq27_] (by kernel_rfl)
  have hq22_ := (if_neg bq21_).symm.trans hq14_
  by_cases bq29_ : pf > (10000 : Int)
  · have hq30_ := (if_pos bq29_).symm.trans hq22_
    obtain ⟨r361, fq31_, hq32_⟩ := pullD_elim hq30_
    replace fq31_ := m_102_ok fq31_
    obtain ⟨r362, fq33_, hq34_⟩ := pullD_elim hq32_
    replace fq33_ := m_83_ok fq33_
    obtain ⟨r363, fq35_, hq36_⟩ := pullD_elim hq34_
    replace fq35_ := m_83_ok fq35_
    obtain rfl := Option.some.inj hq36_
    exact con_pc (op := true) (I := [115, 143, 95, 132]) (sp := chkClamp_sp) 3000 (bT 1 (bF 5 (bT 1 (bF 6 (bT 7 (bF 5 (bT 1 (bF 4 (bT 1 []))))))))) [iD r348, iD r349, iD r350, iD r351, iD r361, iD r362, iD r363] [c_T, c_n b1_, c_n b1_, c_n b1_, c_n b1_, c_n b9_, c_T, c_n b17_, c_n b17_, c_n b17_, c_n b17_, c_n b25_, c_F, c_le 0, c_le 1, c_T, c_d b37_, c_d b37_, c_d b37_, c_d b37_, c_T, c_le 0, c_le 1, c_T, c_n bq5_, c_n bq5_, c_n bq5_, c_n bq5_, c_n bq13_, c_T, c_n bq21_, c_n bq21_, c_n bq21_, c_n bq21_, c_d bq29_, c_le 0, c_le 1, c_le 2] [k_c f33_, k_c f35_, k_c fq1_, k_c fq3_, k_c fq31_, k_c fq33_, k_c fq35_] (by kernel_rfl)
  have hq30_ := (if_neg bq29_).symm.trans hq22_
  obtain ⟨r364, fq37_, hq38_⟩ := pullD_elim hq30_
  replace fq37_ := m_102_ok fq37_
  obtain ⟨r365, fq39_, hq40_⟩ := pullD_elim hq38_
  replace fq39_ := m_83_ok fq39_
  obtain ⟨r366, fq41_, hq42_⟩ := pullD_elim hq40_
  replace fq41_ := m_83_ok fq41_
  obtain rfl := Option.some.inj hq42_
  exact con_pc (op := true) (I := [115, 143, 95, 132]) (sp := chkClamp_sp) 3000 (bT 1 (bF 5 (bT 1 (bF 6 (bT 7 (bF 5 (bT 1 (bF 6 [])))))))) [iD r348, iD r349, iD r350, iD r351, iD r364, iD r365, iD r366] [c_T, c_n b1_, c_n b1_, c_n b1_, c_n b1_, c_n b9_, c_T, c_n b17_, c_n b17_, c_n b17_, c_n b17_, c_n b25_, c_F, c_le 0, c_le 1, c_T, c_d b37_, c_d b37_, c_d b37_, c_d b37_, c_T, c_le 0, c_le 1, c_T, c_n bq5_, c_n bq5_, c_n bq5_, c_n bq5_, c_n bq13_, c_T, c_n bq21_, c_n bq21_, c_n bq21_, c_n bq21_, c_n bq29_, c_F, c_le 0, c_le 1, c_le 2] [k_c f33_, k_c f35_, k_c fq1_, k_c fq3_, k_c fq37_, k_c fq39_, k_c fq41_] (by kernel_rfl)
theorem chkClamp_M_s9_ok (pa pb pc pd pe pf : Int) (r348 : Int) (r349 : Int) (b1_ : ¬ (pa < (0 : Int))) (b9_ : ¬ (pa > (1000000000 : Int))) (b17_ : ¬ (pb < (0 : Int))) (b25_ : ¬ (pb > (1000000000 : Int))) (f33_ : Con 102 [.list 1 [iD pa, iD pb]] (iD r348)) (f35_ : Con 83 [.list 2 [iD (0 : Int), iD r348]] (iD r349)) (b37_ : ¬ (pc < (0 : Int))) {r : D} (h : chkClamp_M_s9 pa pb pc pd pe pf r348 r349 = some r) : Con 115 [(shNF5_0 pa pb pc pd pe pf)] r := by
  unfold chkClamp_M_s9 at h
  by_cases bq1_ : pc > (1000 : Int)
  · have hq2_ := (if_pos bq1_).symm.trans h
    obtain ⟨r367, fq3_, hq4_⟩ := pullD_elim hq2_
    replace fq3_ := m_102_ok fq3_
    obtain ⟨r368, fq5_, hq6_⟩ := pullD_elim hq4_
    replace fq5_ := m_83_ok fq5_
    by_cases bq7_ : pe < (0 : Int)
    · have hq8_ := (if_pos bq7_).symm.trans hq6_
      obtain ⟨r369, fq9_, hq10_⟩ := pullD_elim hq8_
      replace fq9_ := m_102_ok fq9_
      obtain ⟨r370, fq11_, hq12_⟩ := pullD_elim hq10_
      replace fq11_ := m_83_ok fq11_
      obtain ⟨r371, fq13_, hq14_⟩ := pullD_elim hq12_
      replace fq13_ := m_83_ok fq13_
      obtain rfl := Option.some.inj hq14_
      exact con_pc (op := true) (I := [115, 143, 95, 132]) (sp := chkClamp_sp) 3000 (bT 1 (bF 5 (bT 1 (bF 6 (bT 1 (bF 4 (bT 7 []))))))) [iD r348, iD r349, iD r367, iD r368, iD r369, iD r370, iD r371] [c_T, c_n b1_, c_n b1_, c_n b1_, c_n b1_, c_n b9_, c_T, c_n b17_, c_n b17_, c_n b17_, c_n b17_, c_n b25_, c_F, c_le 0, c_le 1, c_T, c_n b37_, c_n b37_, c_n b37_, c_n b37_, c_d bq1_, c_le 0, c_le 1, c_T, c_d bq7_, c_d bq7_, c_d bq7_, c_d bq7_, c_T, c_le 0, c_le 1, c_le 2] [k_c f33_, k_c f35_, k_c fq3_, k_c fq5_, k_c fq9_, k_c fq11_, k_c fq13_] (by kernel_rfl)
    have hq8_ := (if_neg bq7_).symm.trans hq6_
    by_cases bq15_ : pe > (10000 : Int)
    · have hq16_ := (if_pos bq15_).symm.trans hq8_
      obtain ⟨r372, fq17_, hq18_⟩ := pullD_elim hq16_
      replace fq17_ := m_102_ok fq17_
      obtain ⟨r373, fq19_, hq20_⟩ := pullD_elim hq18_
      replace fq19_ := m_83_ok fq19_
      obtain ⟨r374, fq21_, hq22_⟩ := pullD_elim hq20_
      replace fq21_ := m_83_ok fq21_
      obtain rfl := Option.some.inj hq22_
      exact con_pc (op := true) (I := [115, 143, 95, 132]) (sp := chkClamp_sp) 3000 (bT 1 (bF 5 (bT 1 (bF 6 (bT 1 (bF 4 (bT 2 (bF 4 (bT 1 []))))))))) [iD r348, iD r349, iD r367, iD r368, iD r372, iD r373, iD r374] [c_T, c_n b1_, c_n b1_, c_n b1_, c_n b1_, c_n b9_, c_T, c_n b17_, c_n b17_, c_n b17_, c_n b17_, c_n b25_, c_F, c_le 0, c_le 1, c_T, c_n b37_, c_n b37_, c_n b37_, c_n b37_, c_d bq1_, c_le 0, c_le 1, c_T, c_n bq7_, c_n bq7_, c_n bq7_, c_n bq7_, c_d bq15_, c_le 0, c_le 1, c_le 2] [k_c f33_, k_c f35_, k_c fq3_, k_c fq5_, k_c fq17_, k_c fq19_, k_c fq21_] (by kernel_rfl)
    have hq16_ := (if_neg bq15_).symm.trans hq8_
    by_cases bq23_ : pf < (0 : Int)
    · have hq24_ := (if_pos bq23_).symm.trans hq16_
      obtain ⟨r375, fq25_, hq26_⟩ := pullD_elim hq24_
      replace fq25_ := m_102_ok fq25_
      obtain ⟨r376, fq27_, hq28_⟩ := pullD_elim hq26_
      replace fq27_ := m_83_ok fq27_
      obtain ⟨r377, fq29_, hq30_⟩ := pullD_elim hq28_
      replace fq29_ := m_83_ok fq29_
      obtain rfl := Option.some.inj hq30_
      exact con_pc (op := true) (I := [115, 143, 95, 132]) (sp := chkClamp_sp) 3000 (bT 1 (bF 5 (bT 1 (bF 6 (bT 1 (bF 4 (bT 2 (bF 5 (bT 6 []))))))))) [iD r348, iD r349, iD r367, iD r368, iD r375, iD r376, iD r377] [c_T, c_n b1_, c_n b1_, c_n b1_, c_n b1_, c_n b9_, c_T, c_n b17_, c_n b17_, c_n b17_, c_n b17_, c_n b25_, c_F, c_le 0, c_le 1, c_T, c_n b37_, c_n b37_, c_n b37_, c_n b37_, c_d bq1_, c_le 0, c_le 1, c_T, c_n bq7_, c_n bq7_, c_n bq7_, c_n bq7_, c_n bq15_, c_T, c_d bq23_, c_d bq23_, c_d bq23_, c_d bq23_, c_T, c_le 0, c_le 1, c_le 2] [k_c f33_, k_c f35_, k_c fq3_, k_c fq5_, k_c fq25_, k_c fq27_, k_c fq29_] (by kernel_rfl)
    have hq24_ := (if_neg bq23_).symm.trans hq16_
    by_cases bq31_ : pf > (10000 : Int)
    · have hq32_ := (if_pos bq31_).symm.trans hq24_
      obtain ⟨r378, fq33_, hq34_⟩ := pullD_elim hq32_
      replace fq33_ := m_102_ok fq33_
      obtain ⟨r379, fq35_, hq36_⟩ := pullD_elim hq34_
      replace fq35_ := m_83_ok fq35_
      obtain ⟨r380, fq37_, hq38_⟩ := pullD_elim hq36_
      replace fq37_ := m_83_ok fq37_
      obtain rfl := Option.some.inj hq38_
      exact con_pc (op := true) (I := [115, 143, 95, 132]) (sp := chkClamp_sp) 3000 (bT 1 (bF 5 (bT 1 (bF 6 (bT 1 (bF 4 (bT 2 (bF 5 (bT 1 (bF 4 (bT 1 []))))))))))) [iD r348, iD r349, iD r367, iD r368, iD r378, iD r379, iD r380] [c_T, c_n b1_, c_n b1_, c_n b1_, c_n b1_, c_n b9_, c_T, c_n b17_, c_n b17_, c_n b17_, c_n b17_, c_n b25_, c_F, c_le 0, c_le 1, c_T, c_n b37_, c_n b37_, c_n b37_, c_n b37_, c_d bq1_, c_le 0, c_le 1, c_T, c_n bq7_, c_n bq7_, c_n bq7_, c_n bq7_, c_n bq15_, c_T, c_n bq23_, c_n bq23_, c_n bq23_, c_n bq23_, c_d bq31_, c_le 0, c_le 1, c_le 2] [k_c f33_, k_c f35_, k_c fq3_, k_c fq5_, k_c fq33_, k_c fq35_, k_c fq37_] (by kernel_rfl)
    have hq32_ := (if_neg bq31_).symm.trans hq24_
    obtain ⟨r381, fq39_, hq40_⟩ := pullD_elim hq32_
    replace fq39_ := m_102_ok fq39_
    obtain ⟨r382, fq41_, hq42_⟩ := pullD_elim hq40_
    replace fq41_ := m_83_ok fq41_
    obtain ⟨r383, fq43_, hq44_⟩ := pullD_elim hq42_
    replace fq43_ := m_83_ok fq43_
    obtain rfl := Option.some.inj hq44_
    exact con_pc (op := true) (I := [115, 143, 95, 132]) (sp := chkClamp_sp) 3000 (bT 1 (bF 5 (bT 1 (bF 6 (bT 1 (bF 4 (bT 2 (bF 5 (bT 1 (bF 6 [])))))))))) [iD r348, iD r349, iD r367, iD r368, iD r381, iD r382, iD r383] [c_T, c_n b1_, c_n b1_, c_n b1_, c_n b1_, c_n b9_, c_T, c_n b17_, c_n b17_, c_n b17_, c_n b17_, c_n b25_, c_F, c_le 0, c_le 1, c_T, c_n b37_, c_n b37_, c_n b37_, c_n b37_, c_d bq1_, c_le 0, c_le 1, c_T, c_n bq7_, c_n bq7_, c_n bq7_, c_n bq7_, c_n bq15_, c_T, c_n bq23_, c_n bq23_, c_n bq23_, c_n bq23_, c_n bq31_, c_F, c_le 0, c_le 1, c_le 2] [k_c f33_, k_c f35_, k_c fq3_, k_c fq5_, k_c fq39_, k_c fq41_, k_c fq43_] (by kernel_rfl)
  have hq2_ := (if_neg bq1_).symm.trans h
  by_cases bq45_ : pd < (0 : Int)
  · have hq46_ := (if_pos bq45_).symm.trans hq2_
    obtain ⟨r384, fq47_, hq48_⟩ := pullD_elim hq46_
    replace fq47_ := m_102_ok fq47_
    obtain ⟨r385, fq49_, hq50_⟩ := pullD_elim hq48_
    replace fq49_ := m_83_ok fq49_
    by_cases bq51_ : pe < (0 : Int)
    · have hq52_ := (if_pos bq51_).symm.trans hq50_
      obtain ⟨r386, fq53_, hq54_⟩ := pullD_elim hq52_
      replace fq53_ := m_102_ok fq53_
      obtain ⟨r387, fq55_, hq56_⟩ := pullD_elim hq54_
      replace fq55_ := m_83_ok fq55_
      obtain ⟨r388, fq57_, hq58_⟩ := pullD_elim hq56_
      replace fq57_ := m_83_ok fq57_
      obtain rfl := Option.some.inj hq58_
      exact con_pc (op := true) (I := [115, 143, 95, 132]) (sp := chkClamp_sp) 3000 (bT 1 (bF 5 (bT 1 (bF 6 (bT 1 (bF 5 (bT 12 []))))))) [iD r348, iD r349, iD r384, iD r385, iD r386, iD r387, iD r388] [c_T, c_n b1_, c_n b1_, c_n b1_, c_n b1_, c_n b9_, c_T, c_n b17_, c_n b17_, c_n b17_, c_n b17_, c_n b25_, c_F, c_le 0, c_le 1, c_T, c_n b37_, c_n b37_, c_n b37_, c_n b37_, c_n bq1_, c_T, c_d bq45_, c_d bq45_, c_d bq45_, c_d bq45_, c_T, c_le 0, c_le 1, c_T, c_d bq51_, c_d bq51_, c_d bq51_, c_d bq51_, c_T, c_le 0, c_le 1, c_le 2] [k_c f33_, k_c f35_, k_c fq47_, k_c fq49_, k_c fq53_, k_c fq55_, k_c fq57_] (by kernel_rfl)
    have hq52_ := (if_neg bq51_).symm.trans hq50_
    by_cases bq59_ : pe > (10000 : Int)
    · have hq60_ := (if_pos bq59_).symm.trans hq52_
      obtain ⟨r389, fq61_, hq62_⟩ := pullD_elim hq60_
      replace fq61_ := m_102_ok fq61_
      obtain ⟨r390, fq63_, hq64_⟩ := pullD_elim hq62_
      replace fq63_ := m_83_ok fq63_
      obtain ⟨r391, fq65_, hq66_⟩ := pullD_elim hq64_
      replace fq65_ := m_83_ok fq65_
      obtain rfl := Option.some.inj hq66_
      exact con_pc (op := true) (I := [115, 143, 95, 132]) (sp := chkClamp_sp) 3000 (bT 1 (bF 5 (bT 1 (bF 6 (bT 1 (bF 5 (bT 7 (bF 4 (bT 1 []))))))))) [iD r348, iD r349, iD r384, iD r385, iD r389, iD r390, iD r391] [c_T, c_n b1_, c_n b1_, c_n b1_, c_n b1_, c_n b9_, c_T, c_n b17_, c_n b17_, c_n b17_, c_n b17_, c_n b25_, c_F, c_le 0, c_le 1, c_T, c_n b37_, c_n b37_, c_n b37_, c_n b37_, c_n bq1_, c_T, c_d bq45_, c_d bq45_, c_d bq45_, c_d bq45_, c_T, c_le 0, c_le 1, c_T, c_n bq51_, c_n bq51_, c_n bq51_, c_n bq51_, c_d bq59_, c_le 0, c_le 1, c_le 2] [k_c f33_, k_c f35_, k_c fq47_, k_c fq49_, k_c fq61_, k_c fq63_, k_c fq65_] (by kernel_rfl)
    have hq60_ := (if_neg bq59_).symm.trans hq52_
    by_cases bq67_ : pf < (0 : Int)
    · have hq68_ := (if_pos bq67_).symm.trans hq60_
      obtain ⟨r392, fq69_, hq70_⟩ := pullD_elim hq68_
      replace fq69_ := m_102_ok fq69_
      obtain ⟨r393, fq71_, hq72_⟩ := pullD_elim hq70_
      replace fq71_ := m_83_ok fq71_
      obtain ⟨r394, fq73_, hq74_⟩ := pullD_elim hq72_
      replace fq73_ := m_83_ok fq73_
      obtain rfl := Option.some.inj hq74_
      exact con_pc (op := true) (I := [115, 143, 95, 132]) (sp := chkClamp_sp) 3000 (bT 1 (bF 5 (bT 1 (bF 6 (bT 1 (bF 5 (bT 7 (bF 5 (bT 6 []))))))))) [iD r348, iD r349, iD r384, iD r385, iD r392, iD r393, iD r394] [c_T, c_n b1_, c_n b1_, c_n b1_, c_n b1_, c_n b9_, c_T, c_n b17_, c_n b17_, c_n b17_, c_n b17_, c_n b25_, c_F, c_le 0, c_le 1, c_T, c_n b37_, c_n b37_, c_n b37_, c_n b37_, c_n bq1_, c_T, c_d bq45_, c_d bq45_, c_d bq45_, c_d bq45_, c_T, c_le 0, c_le 1, c_T, c_n bq51_, c_n bq51_, c_n bq51_, c_n bq51_, c_n bq59_, c_T, c_d bq67_, c_d bq67_, c_d bq67_, c_d bq67_, c_T, c_le 0, c_le 1, c_le 2] [k_c f33_, k_c f35_, k_c fq47_, k_c fq49_, k_c fq69_, k_c fq71_, k_c fq73_] (by kernel_rfl)
    have hq68_ := (if_neg bq67_).symm.trans hq60_
    by_cases bq75_ : pf > (10000 : Int)
    · have hq76_ := (if_pos bq75_).symm.trans hq68_
      obtain ⟨r395, fq77_, hq78_⟩ := pullD_elim hq76_
      replace fq77_ := m_102_ok fq77_
      obtain ⟨r396, fq79_, hq80_⟩ := pullD_elim hq78_
      replace fq79_ := m_83_ok fq79_
      obtain ⟨r397, fq81_, hq82_⟩ := pullD_elim hq80_
      replace fq81_ := m_83_ok fq81_
      obtain rfl := Option.some.inj hq82_
      exact con_pc (op := true) (I := [115, 143, 95, 132]) (sp := chkClamp_sp) 3000 (bT 1 (bF 5 (bT 1 (bF 6 (bT 1 (bF 5 (bT 7 (bF 5 (bT 1 (bF 4 (bT 1 []))))))))))) [iD r348, iD r349, iD r384, iD r385, iD r395, iD r396, iD r397] [c_T, c_n b1_, c_n b1_, c_n b1_, c_n b1_, c_n b9_, c_T, c_n b17_, c_n b17_, c_n b17_, c_n b17_, c_n b25_, c_F, c_le 0, c_le 1, c_T, c_n b37_, c_n b37_, c_n b37_, c_n b37_, c_n bq1_, c_T, c_d bq45_, c_d bq45_, c_d bq45_, c_d bq45_, c_T, c_le 0, c_le 1, c_T, c_n bq51_, c_n bq51_, c_n bq51_, c_n bq51_, c_n bq59_, c_T, c_n bq67_, c_n bq67_, c_n bq67_, c_n bq67_, c_d bq75_, c_le 0, c_le 1, c_le 2] [k_c f33_, k_c f35_, k_c fq47_, k_c fq49_, k_c fq77_, k_c fq79_, k_c fq81_] (by kernel_rfl)
    have hq76_ := (if_neg bq75_).symm.trans hq68_
    obtain ⟨r398, fq83_, hq84_⟩ := pullD_elim hq76_
    replace fq83_ := m_102_ok fq83_
    obtain ⟨r399, fq85_, hq86_⟩ := pullD_elim hq84_
    replace fq85_ := m_83_ok fq85_
    obtain ⟨r400, fq87_, hq88_⟩ := pullD_elim hq86_
    replace fq87_ := m_83_ok fq87_
    obtain rfl := Option.some.inj hq88_
    exact con_pc (op := true) (I := [115, 143, 95, 132]) (sp := chkClamp_sp) 3000 (bT 1 (bF 5 (bT 1 (bF 6 (bT 1 (bF 5 (bT 7 (bF 5 (bT 1 (bF 6 [])))))))))) [iD r348, iD r349, iD r384, iD r385, iD r398, iD r399, iD r400] [c_T, c_n b1_, c_n b1_, c_n b1_, c_n b1_, c_n b9_, c_T, c_n b17_, c_n b17_, c_n b17_, c_n b17_, c_n b25_, c_F, c_le 0, c_le 1, c_T, c_n b37_, c_n b37_, c_n b37_, c_n b37_, c_n bq1_, c_T, c_d bq45_, c_d bq45_, c_d bq45_, c_d bq45_, c_T, c_le 0, c_le 1, c_T, c_n bq51_, c_n bq51_, c_n bq51_, c_n bq51_, c_n bq59_, c_T, c_n bq67_, c_n bq67_, c_n bq67_, c_n bq67_, c_n bq75_, c_F, c_le 0, c_le 1, c_le 2] [k_c f33_, k_c f35_, k_c fq47_, k_c fq49_, k_c fq83_, k_c fq85_, k_c fq87_] (by kernel_rfl)
  have hq46_ := (if_neg bq45_).symm.trans hq2_
  by_cases bq89_ : pd > (1000 : Int)
  · have hq90_ := (if_pos bq89_).symm.trans hq46_
    obtain ⟨r401, fq91_, hq92_⟩ := pullD_elim hq90_
    replace fq91_ := m_102_ok fq91_
    obtain ⟨r402, fq93_, hq94_⟩ := pullD_elim hq92_
    replace fq93_ := m_83_ok fq93_
    by_cases bq95_ : pe < (0 : Int)
    · have hq96_ := (if_pos bq95_).symm.trans hq94_
      obtain ⟨r403, fq97_, hq98_⟩ := pullD_elim hq96_
      replace fq97_ := m_102_ok fq97_
      obtain ⟨r404, fq99_, hq100_⟩ := pullD_elim hq98_
      replace fq99_ := m_83_ok fq99_
      obtain ⟨r405, fq101_, hq102_⟩ := pullD_elim hq100_
      replace fq101_ := m_83_ok fq101_
      obtain rfl := Option.some.inj hq102_
      exact con_pc (op := true) (I := [115, 143, 95, 132]) (sp := chkClamp_sp) 3000 (bT 1 (bF 5 (bT 1 (bF 6 (bT 1 (bF 5 (bT 1 (bF 4 (bT 7 []))))))))) [iD r348, iD r349, iD r401, iD r402, iD r403, iD r404, iD r405] [c_T, c_n b1_, c_n b1_, c_n b1_, c_n b1_, c_n b9_, c_T, c_n b17_, c_n b17_, c_n b17_, c_n b17_, c_n b25_, c_F, c_le 0, c_le 1, c_T, c_n b37_, c_n b37_, c_n b37_, c_n b37_, c_n bq1_, c_T, c_n bq45_, c_n bq45_, c_n bq45_, c_n bq45_, c_d bq89_, c_le 0, c_le 1, c_T, c_d bq95_, c_d bq95_, c_d bq95_, c_d bq95_, c_T, c_le 0, c_le 1, c_le 2] [k_c f33_, k_c f35_, k_c fq91_, k_c fq93_, k_c fq97_, k_c fq99_, k_c fq101_] (by kernel_rfl)
    have hq96_ := (if_neg bq95_).symm.trans hq94_
    by_cases bq103_ : pe > (10000 : Int)
    · have hq104_ := (if_pos bq103_).symm.trans hq96_
      obtain ⟨r406, fq105_, hq106_⟩ := pullD_elim hq104_
      replace fq105_ := m_102_ok fq105_
      obtain ⟨r407, fq107_, hq108_⟩ := pullD_elim hq106_
      replace fq107_ := m_83_ok fq107_
      obtain ⟨r408, fq109_, hq110_⟩ := pullD_elim hq108_
      replace fq109_ := m_83_ok fq109_
      obtain rfl := Option.some.inj hq110_
      exact con_pc (op := true) (I := [115, 143, 95, 132]) (sp := chkClamp_sp) 3000 (bT 1 (bF 5 (bT 1 (bF 6 (bT 1 (bF 5 (bT 1 (bF 4 (bT 2 (bF 4 (bT 1 []))))))))))) [iD r348, iD r349, iD r401, iD r402, iD r406, iD r407, iD r408] [c_T, c_n b1_, c_n b1_, c_n b1_, c_n b1_, c_n b9_, c_T, c_n b17_, c_n b17_, c_n b17_, c_n b17_, c_n b25_, c_F, c_le 0, c_le 1, c_T, c_n b37_, c_n b37_, c_n b37_, c_n b37_, c_n bq1_, c_T, c_n bq45_, c_n bq45_, c_n bq45_, c_n bq45_, c_d bq89_, c_le 0, c_le 1, c_T, c_n bq95_, c_n bq95_, c_n bq95_, c_n bq95_, c_d bq103_, c_le 0, c_le 1, c_le 2] [k_c f33_, k_c f35_, k_c fq91_, k_c fq93_, k_c fq105_, k_c fq107_, k_c fq109_] (by kernel_rfl)
    have hq104_ := (if_neg bq103_).symm.trans hq96_
    by_cases bq111_ : pf < (0 : Int)
    · have hq112_ := (if_pos bq111_).symm.trans hq104_
      obtain ⟨r409, fq113_, hq114_⟩ := pullD_elim hq112_
      replace fq113_ := m_102_ok fq113_
      obtain ⟨r410, fq115_, hq116_⟩ := pullD_elim hq114_
      replace fq115_ := m_83_ok fq115_
      obtain ⟨r411, fq117_, hq118_⟩ := pullD_elim hq116_
      replace fq117_ := m_83_ok fq117_
      obtain rfl := Option.some.inj hq118_
      exact con_pc (op := true) (I := [115, 143, 95, 132]) (sp := chkClamp_sp) 3000 (bT 1 (bF 5 (bT 1 (bF 6 (bT 1 (bF 5 (bT 1 (bF 4 (bT 2 (bF 5 (bT 6 []))))))))))) [iD r348, iD r349, iD r401, iD r402, iD r409, iD r410, iD r411] [c_T, c_n b1_, c_n b1_, c_n b1_, c_n b1_, c_n b9_, c_T, c_n b17_, c_n b17_, c_n b17_, c_n b17_, c_n b25_, c_F, c_le 0, c_le 1, c_T, c_n b37_, c_n b37_, c_n b37_, c_n b37_, c_n bq1_, c_T, c_n bq45_, c_n bq45_, c_n bq45_, c_n bq45_, c_d bq89_, c_le 0, c_le 1, c_T, c_n bq95_, c_n bq95_, c_n bq95_, c_n bq95_, c_n bq103_, c_T, c_d bq111_, c_d bq111_, c_d bq111_, c_d bq111_, c_T, c_le 0, c_le 1, c_le 2] [k_c f33_, k_c f35_, k_c fq91_, k_c fq93_, k_c fq113_, k_c fq115_, k_c fq117_] (by kernel_rfl)
    have hq112_ := (if_neg bq111_).symm.trans hq104_
    by_cases bq119_ : pf > (10000 : Int)
    · have hq120_ := (if_pos bq119_).symm.trans hq112_
      obtain ⟨r412, fq121_, hq122_⟩ := pullD_elim hq120_
      replace fq121_ := m_102_ok fq121_
      obtain ⟨r413, fq123_, hq124_⟩ := pullD_elim hq122_
      replace fq123_ := m_83_ok fq123_
      obtain ⟨r414, fq125_, hq126_⟩ := pullD_elim hq124_
      replace fq125_ := m_83_ok fq125_
      obtain rfl := Option.some.inj hq126_
      exact con_pc (op := true) (I := [115, 143, 95, 132]) (sp := chkClamp_sp) 3000 (bT 1 (bF 5 (bT 1 (bF 6 (bT 1 (bF 5 (bT 1 (bF 4 (bT 2 (bF 5 (bT 1 (bF 4 (bT 1 []))))))))))))) [iD r348, iD r349, iD r401, iD r402, iD r412, iD r413, iD r414] [c_T, c_n b1_, c_n b1_, c_n b1_, c_n b1_, c_n b9_, c_T, c_n b17_, c_n b17_, c_n b17_, c_n b17_, c_n b25_, c_F, c_le 0, c_le 1, c_T, c_n b37_, c_n b37_, c_n b37_, c_n b37_, c_n bq1_, c_T, c_n bq45_, c_n bq45_, c_n bq45_, c_n bq45_, c_d bq89_, c_le 0, c_le 1, c_T, c_n bq95_, c_n bq95_, c_n bq95_, c_n bq95_, c_n bq103_, c_T, c_n bq111_, c_n bq111_, c_n bq111_, c_n bq111_, c_d bq119_, c_le 0, c_le 1, c_le 2] [k_c f33_, k_c f35_, k_c fq91_, k_c fq93_, k_c fq121_, k_c fq123_, k_c fq125_] (by kernel_rfl)
    have hq120_ := (if_neg bq119_).symm.trans hq112_
    obtain ⟨r415, fq127_, hq128_⟩ := pullD_elim hq120_
    replace fq127_ := m_102_ok fq127_
    obtain ⟨r416, fq129_, hq130_⟩ := pullD_elim hq128_
    replace fq129_ := m_83_ok fq129_
    obtain ⟨r417, fq131_, hq132_⟩ := pullD_elim hq130_
    replace fq131_ := m_83_ok fq131_
    obtain rfl := Option.some.inj hq132_
    exact con_pc (op := true) (I := [115, 143, 95, 132]) (sp := chkClamp_sp) 3000 (bT 1 (bF 5 (bT 1 (bF 6 (bT 1 (bF 5 (bT 1 (bF 4 (bT 2 (bF 5 (bT 1 (bF 6 [])))))))))))) [iD r348, iD r349, iD r401, iD r402, iD r415, iD r416, iD r417] [c_T, c_n b1_, c_n b1_, c_n b1_, c_n b1_, c_n b9_, c_T, c_n b17_, c_n b17_, c_n b17_, c_n b17_, c_n b25_, c_F, c_le 0, c_le 1, c_T, c_n b37_, c_n b37_, c_n b37_, c_n b37_, c_n bq1_, c_T, c_n bq45_, c_n bq45_, c_n bq45_, c_n bq45_, c_d bq89_, c_le 0, c_le 1, c_T, c_n bq95_, c_n bq95_, c_n bq95_, c_n bq95_, c_n bq103_, c_T, c_n bq111_, c_n bq111_, c_n bq111_, c_n bq111_, c_n bq119_, c_F, c_le 0, c_le 1, c_le 2] [k_c f33_, k_c f35_, k_c fq91_, k_c fq93_, k_c fq127_, k_c fq129_, k_c fq131_] (by kernel_rfl)
  have hq90_ := (if_neg bq89_).symm.trans hq46_
  obtain ⟨r418, fq133_, hq134_⟩ := pullD_elim hq90_
  replace fq133_ := m_102_ok fq133_
  obtain ⟨r419, fq135_, hq136_⟩ := pullD_elim hq134_
  replace fq135_ := m_83_ok fq135_
  by_cases bq137_ : pe < (0 : Int)
  · have hq138_ := (if_pos bq137_).symm.trans hq136_
    obtain ⟨r420, fq139_, hq140_⟩ := pullD_elim hq138_
    replace fq139_ := m_102_ok fq139_
    obtain ⟨r421, fq141_, hq142_⟩ := pullD_elim hq140_
    replace fq141_ := m_83_ok fq141_
    obtain ⟨r422, fq143_, hq144_⟩ := pullD_elim hq142_
    replace fq143_ := m_83_ok fq143_
    obtain rfl := Option.some.inj hq144_
    exact con_pc (op := true) (I := [115, 143, 95, 132]) (sp := chkClamp_sp) 3000 (bT 1 (bF 5 (bT 1 (bF 6 (bT 1 (bF 5 (bT 1 (bF 6 (bT 6 []))))))))) [iD r348, iD r349, iD r418, iD r419, iD r420, iD r421, iD r422] [c_T, c_n b1_, c_n b1_, c_n b1_, c_n b1_, c_n b9_, c_T, c_n b17_, c_n b17_, c_n b17_, c_n b17_, c_n b25_, c_F, c_le 0, c_le 1, c_T, c_n b37_, c_n b37_, c_n b37_, c_n b37_, c_n bq1_, c_T, c_n bq45_, c_n bq45_, c_n bq45_, c_n bq45_, c_n bq89_, c_F, c_le 0, c_le 1, c_T, c_d bq137_, c_d bq137_, c_d bq137_, c_d bq137_, c_T, c_le 0, c_le 1, c_le 2] [k_c f33_, k_c f35_, k_c fq133_, k_c fq135_, k_c fq139_, k_c fq141_, k_c fq143_] (by kernel_rfl)
  have hq138_ := (if_neg bq137_).symm.trans hq136_
  by_cases bq145_ : pe > (10000 : Int)
  · have hq146_ := (if_pos bq145_).symm.trans hq138_
    obtain ⟨r423, fq147_, hq148_⟩ := pullD_elim hq146_
    replace fq147_ := m_102_ok fq147_
    obtain ⟨r424, fq149_, hq150_⟩ := pullD_elim hq148_
    replace fq149_ := m_83_ok fq149_
    obtain ⟨r425, fq151_, hq152_⟩ := pullD_elim hq150_
    replace fq151_ := m_83_ok fq151_
    obtain rfl := Option.some.inj hq152_
    exact con_pc (op := true) (I := [115, 143, 95, 132]) (sp := chkClamp_sp) 3000 (bT 1 (bF 5 (bT 1 (bF 6 (bT 1 (bF 5 (bT 1 (bF 6 (bT 1 (bF 4 (bT 1 []))))))))))) [iD r348, iD r349, iD r418, iD r419, iD r423, iD r424, iD r425] [c_T, c_n b1_, c_n b1_, c_n b1_, c_n b1_, c_n b9_, c_T, c_n b17_, c_n b17_, c_n b17_, c_n b17_, c_n b25_, c_F, c_le 0, c_le 1, c_T, c_n b37_, c_n b37_, c_n b37_, c_n b37_, c_n bq1_, c_T, c_n bq45_, c_n bq45_, c_n bq45_, c_n bq45_, c_n bq89_, c_F, c_le 0, c_le 1, c_T, c_n bq137_, c_n bq137_, c_n bq137_, c_n bq137_, c_d bq145_, c_le 0, c_le 1, c_le 2] [k_c f33_, k_c f35_, k_c fq133_, k_c fq135_, k_c fq147_, k_c fq149_, k_c fq151_] (by kernel_rfl)
  have hq146_ := (if_neg bq145_).symm.trans hq138_
  by_cases bq153_ : pf < (0 : Int)
  · have hq154_ := (if_pos bq153_).symm.trans hq146_
    obtain ⟨r426, fq155_, hq156_⟩ := pullD_elim hq154_
    replace fq155_ := m_102_ok fq155_
    obtain ⟨r427, fq157_, hq158_⟩ := pullD_elim hq156_
    replace fq157_ := m_83_ok fq157_
    obtain ⟨r428, fq159_, hq160_⟩ := pullD_elim hq158_
    replace fq159_ := m_83_ok fq159_
    obtain rfl := Option.some.inj hq160_
    exact con_pc (op := true) (I := [115, 143, 95, 132]) (sp := chkClamp_sp) 3000 (bT 1 (bF 5 (bT 1 (bF 6 (bT 1 (bF 5 (bT 1 (bF 6 (bT 1 (bF 5 (bT 6 []))))))))))) [iD r348, iD r349, iD r418, iD r419, iD r426, iD r427, iD r428] [c_T, c_n b1_, c_n b1_, c_n b1_, c_n b1_, c_n b9_, c_T, c_n b17_, c_n b17_, c_n b17_, c_n b17_, c_n b25_, c_F, c_le 0, c_le 1, c_T, c_n b37_, c_n b37_, c_n b37_, c_n b37_, c_n bq1_, c_T, c_n bq45_, c_n bq45_, c_n bq45_, c_n bq45_, c_n bq89_, c_F, c_le 0, c_le 1, c_T, c_n bq137_, c_n bq137_, c_n bq137_, c_n bq137_, c_n bq145_, c_T, c_d bq153_, c_d bq153_, c_d bq153_, c_d bq153_, c_T, c_le 0, c_le 1, c_le 2] [k_c f33_, k_c f35_, k_c fq133_, k_c fq135_, k_c fq155_, k_c fq157_, k_c fq159_] (by kernel_rfl)
  have hq154_ := (if_neg bq153_).symm.trans hq146_
  by_cases bq161_ : pf > (10000 : Int)
  · have hq162_ := (if_pos bq161_).symm.trans hq154_
    obtain ⟨r429, fq163_, hq164_⟩ := pullD_elim hq162_
    replace fq163_ := m_102_ok fq163_
    obtain ⟨r430, fq165_, hq166_⟩ := pullD_elim hq164_
    replace fq165_ := m_83_ok fq165_
    obtain ⟨r431, fq167_, hq168_⟩ := pullD_elim hq166_
    replace fq167_ := m_83_ok fq167_
    obtain rfl := Option.some.inj hq168_
    exact con_pc (op := true) (I := [115, 143, 95, 132]) (sp := chkClamp_sp) 3000 (bT 1 (bF 5 (bT 1 (bF 6 (bT 1 (bF 5 (bT 1 (bF 6 (bT 1 (bF 5 (bT 1 (bF 4 (bT 1 []))))))))))))) [iD r348, iD r349, iD r418, iD r419, iD r429, iD r430, iD r431] [c_T, c_n b1_, c_n b1_, c_n b1_, c_n b1_, c_n b9_, c_T, c_n b17_, c_n b17_, c_n b17_, c_n b17_, c_n b25_, c_F, c_le 0, c_le 1, c_T, c_n b37_, c_n b37_, c_n b37_, c_n b37_, c_n bq1_, c_T, c_n bq45_, c_n bq45_, c_n bq45_, c_n bq45_, c_n bq89_, c_F, c_le 0, c_le 1, c_T, c_n bq137_, c_n bq137_, c_n bq137_, c_n bq137_, c_n bq145_, c_T, c_n bq153_, c_n bq153_, c_n bq153_, c_n bq153_, c_d bq161_, c_le 0, c_le 1, c_le 2] [k_c f33_, k_c f35_, k_c fq133_, k_c fq135_, k_c fq163_, k_c fq165_, k_c fq167_] (by kernel_rfl)
  have hq162_ := (if_neg bq161_).symm.trans hq154_
  obtain ⟨r432, fq169_, hq170_⟩ := pullD_elim hq162_
  replace fq169_ := m_102_ok fq169_
  obtain ⟨r433, fq171_, hq172_⟩ := pullD_elim hq170_
  replace fq171_ := m_83_ok fq171_
  obtain ⟨r434, fq173_, hq174_⟩ := pullD_elim hq172_
  replace fq173_ := m_83_ok fq173_
  obtain rfl := Option.some.inj hq174_
  exact con_pc (op := true) (I := [115, 143, 95, 132]) (sp := chkClamp_sp) 3000 (bT 1 (bF 5 (bT 1 (bF 6 (bT 1 (bF 5 (bT 1 (bF 6 (bT 1 (bF 5 (bT 1 (bF 6 [])))))))))))) [iD r348, iD r349, iD r418, iD r419, iD r432, iD r433, iD r434] [c_T, c_n b1_, c_n b1_, c_n b1_, c_n b1_, c_n b9_, c_T, c_n b17_, c_n b17_, c_n b17_, c_n b17_, c_n b25_, c_F, c_le 0, c_le 1, c_T, c_n b37_, c_n b37_, c_n b37_, c_n b37_, c_n bq1_, c_T, c_n bq45_, c_n bq45_, c_n bq45_, c_n bq45_, c_n bq89_, c_F, c_le 0, c_le 1, c_T, c_n bq137_, c_n bq137_, c_n bq137_, c_n bq137_, c_n bq145_, c_T, c_n bq153_, c_n bq153_, c_n bq153_, c_n bq153_, c_n bq161_, c_F, c_le 0, c_le 1, c_le 2] [k_c f33_, k_c f35_, k_c fq133_, k_c fq135_, k_c fq169_, k_c fq171_, k_c fq173_] (by kernel_rfl)
theorem chkClamp_M_ok (pa pb pc pd pe pf : Int) {r : D} (h : chkClamp_M pa pb pc pd pe pf = some r) : Con 115 [(shNF5_0 pa pb pc pd pe pf)] r := by
  unfold chkClamp_M at h
  by_cases b1_ : pa < (0 : Int)
  · have h2_ := (if_pos b1_).symm.trans h
    obtain ⟨r0, f3_, h4_⟩ := pullD_elim h2_
    replace f3_ := m_102_ok f3_
    obtain ⟨r1, f5_, h6_⟩ := pullD_elim h4_
    replace f5_ := m_83_ok f5_
    by_cases b7_ : pc < (0 : Int)
    · have h8_ := (if_pos b7_).symm.trans h6_
      exact chkClamp_M_s0_ok pa pb pc pd pe pf r0 r1 b1_ f3_ f5_ b7_ h8_
    have h8_ := (if_neg b7_).symm.trans h6_
    exact chkClamp_M_s1_ok pa pb pc pd pe pf r0 r1 b1_ f3_ f5_ b7_ h8_
  have h2_ := (if_neg b1_).symm.trans h
  by_cases b9_ : pa > (1000000000 : Int)
  · have h10_ := (if_pos b9_).symm.trans h2_
    obtain ⟨r87, f11_, h12_⟩ := pullD_elim h10_
    replace f11_ := m_102_ok f11_
    obtain ⟨r88, f13_, h14_⟩ := pullD_elim h12_
    replace f13_ := m_83_ok f13_
    by_cases b15_ : pc < (0 : Int)
    · have h16_ := (if_pos b15_).symm.trans h14_
      exact chkClamp_M_s2_ok pa pb pc pd pe pf r87 r88 b1_ b9_ f11_ f13_ b15_ h16_
    have h16_ := (if_neg b15_).symm.trans h14_
    exact chkClamp_M_s3_ok pa pb pc pd pe pf r87 r88 b1_ b9_ f11_ f13_ b15_ h16_
  have h10_ := (if_neg b9_).symm.trans h2_
  by_cases b17_ : pb < (0 : Int)
  · have h18_ := (if_pos b17_).symm.trans h10_
    obtain ⟨r174, f19_, h20_⟩ := pullD_elim h18_
    replace f19_ := m_102_ok f19_
    obtain ⟨r175, f21_, h22_⟩ := pullD_elim h20_
    replace f21_ := m_83_ok f21_
    by_cases b23_ : pc < (0 : Int)
    · have h24_ := (if_pos b23_).symm.trans h22_
      exact chkClamp_M_s4_ok pa pb pc pd pe pf r174 r175 b1_ b9_ b17_ f19_ f21_ b23_ h24_
    have h24_ := (if_neg b23_).symm.trans h22_
    exact chkClamp_M_s5_ok pa pb pc pd pe pf r174 r175 b1_ b9_ b17_ f19_ f21_ b23_ h24_
  have h18_ := (if_neg b17_).symm.trans h10_
  by_cases b25_ : pb > (1000000000 : Int)
  · have h26_ := (if_pos b25_).symm.trans h18_
    obtain ⟨r261, f27_, h28_⟩ := pullD_elim h26_
    replace f27_ := m_102_ok f27_
    obtain ⟨r262, f29_, h30_⟩ := pullD_elim h28_
    replace f29_ := m_83_ok f29_
    by_cases b31_ : pc < (0 : Int)
    · have h32_ := (if_pos b31_).symm.trans h30_
      exact chkClamp_M_s6_ok pa pb pc pd pe pf r261 r262 b1_ b9_ b17_ b25_ f27_ f29_ b31_ h32_
    have h32_ := (if_neg b31_).symm.trans h30_
    exact chkClamp_M_s7_ok pa pb pc pd pe pf r261 r262 b1_ b9_ b17_ b25_ f27_ f29_ b31_ h32_
  have h26_ := (if_neg b25_).symm.trans h18_
  obtain ⟨r348, f33_, h34_⟩ := pullD_elim h26_
  replace f33_ := m_102_ok f33_
  obtain ⟨r349, f35_, h36_⟩ := pullD_elim h34_
  replace f35_ := m_83_ok f35_
  by_cases b37_ : pc < (0 : Int)
  · have h38_ := (if_pos b37_).symm.trans h36_
    exact chkClamp_M_s8_ok pa pb pc pd pe pf r348 r349 b1_ b9_ b17_ b25_ f33_ f35_ b37_ h38_
  have h38_ := (if_neg b37_).symm.trans h36_
  exact chkClamp_M_s9_ok pa pb pc pd pe pf r348 r349 b1_ b9_ b17_ b25_ f33_ f35_ b37_ h38_
def m_115 (ds : List D) : Option D := pullD (α := Int × Int × Int × Int × Int × Int) (some (.tup ds)) (fun d => ((D.vi (D.at (D.at d 0) 0)), (D.vi (D.at (D.at d 0) 1)), (D.vi (D.at (D.at d 0) 2)), (D.vi (D.at (D.at d 0) 3)), (D.vi (D.at (D.at d 0) 4)), (D.vi (D.at (D.at d 0) 5)))) (fun (pa, pb, pc, pd, pe, pf) => .tup [(shNF5_0 pa pb pc pd pe pf)]) fun (pa, pb, pc, pd, pe, pf) => chkClamp_M pa pb pc pd pe pf
theorem m_115_ok {ds : List D} {r : D} (h : m_115 ds = some r) : Con 115 ds r := by
  unfold m_115 at h
  obtain ⟨⟨pa, pb, pc, pd, pe, pf⟩, e0, h0⟩ := pullD_elim h
  obtain rfl := tup_inj e0
  exact chkClamp_M_ok pa pb pc pd pe pf h0
theorem m_115_eq (pa pb pc pd pe pf : Int) : m_115 [(shNF5_0 pa pb pc pd pe pf)] = chkClamp_M pa pb pc pd pe pf := pullD_some (pa, pb, pc, pd, pe, pf) rfl rfl
end
end Go.Proofs.Ytlnolhhoakmdhaa
