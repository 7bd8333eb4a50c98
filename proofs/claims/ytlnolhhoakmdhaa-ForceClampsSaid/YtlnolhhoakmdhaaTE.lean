import Derived.Test.YtlnolhhoakmdhaaTD
set_option linter.unusedVariables false
set_option linter.unusedSimpArgs false
set_option linter.unusedSectionVars false
set_option linter.unnecessarySimpa false
namespace Go.Proofs.Ytlnolhhoakmdhaa
open Go.Ev Go.RowKit
set_option maxRecDepth 100000
set_option maxHeartbeats 8000000
set_option linter.all false
noncomputable section
abbrev shNF1_0 (a0 : Int) (a1 : Int) (a2 : Int) (a3 : Int) : D := .agg [.one (.int .i64 a0), .one (.int .i64 a1), .one (.int .i64 a2), .one (.int .i64 a3)]
def shNF1_0P (d : D) : Int × Int × Int × Int := (D.vi (D.at d 0), D.vi (D.at d 1), D.vi (D.at d 2), D.vi (D.at d 3))
abbrev shNF1_1 (a0 : Int) (a1 : Int) (a2 : Int) (a3 : Int) (a4 : Int) (a5 : Int) : D := .agg [.one (.int .i64 a0), .one (.int .i64 a1), .one (.int .i64 a2), .one (.int .i64 a3), .one (.int .i64 a4), .one (.int .i64 a5)]
def firstOf_x2_0 : LExit := ⟨some 0, [], (2 :: (4 :: (List.range' 7 8)))⟩
def firstOf_x2_1 : LExit := ⟨none, [.val 2], (4 :: (List.range' 7 8))⟩
def firstOf_sp : List LSpec := [⟨83, 2, [firstOf_x2_0, firstOf_x2_1]⟩]
def firstOf_L2_E (k : Nat) (c : List D)  : List AV × AHeap := ([.dsl 0, .pure (.tuple #[]), .pure (.int .i64 (0 : Int)), .pure (.tuple #[]), .pure (.tuple #[]), .dsl 0, .pure (.int .i64 (k : Int)), .pure (.int .i64 (0 : Int)), .pure (.tuple #[]), .pure (.tuple #[]), .pure (.tuple #[]), .pure (.tuple #[]), .pure (.tuple #[]), .pure (.tuple #[]), .pure (.tuple #[])], [(0, { cells := [], opn := none, kind := .deep k c })])
def firstOf_L2_A : LoopAt := ⟨83, loopAt Try.prog 83 0, 1, 11, 1, noFrame⟩
theorem firstOf_L2_ok : (firstOf_L2_A).OK := ⟨by show 1 ≤ 11; decide, by show 1 ≤ 1; decide, by kernel_rfl, rfl⟩
def firstOf_L2_gs (k : Nat) (c : List D)  : Go.Ev.Rd → Option GS
  | .next 0 ds => ghost [.val 7] (2 :: (4 :: (List.range' 8 7))) (firstOf_L2_E k c).1 (firstOf_L2_E k c).2 1 ds
  | .out 0 ds => ghost firstOf_x2_0.live firstOf_x2_0.junk (firstOf_L2_E k c).1 (firstOf_L2_E k c).2 1 ds
  | .out 1 ds => ghost firstOf_x2_1.live firstOf_x2_1.junk (firstOf_L2_E k c).1 (firstOf_L2_E k c).2 1 ds
  | _ => none
def firstOf_L2_ex : Nat → Option Nat
  | 0 => firstOf_x2_0.ex
  | 1 => firstOf_x2_1.ex
  | _ => none
def firstOf_L2_ax : Go.Ev.Rd → AX
  | .next _ _ => .normal
  | .out j _ => axOf (firstOf_L2_ex j)
def firstOf_L2_S0 (k : Nat) (c : List D)  (ds : List D) : Option Go.Ev.Rd := pullD (α := Int) (some (.tup ds)) (fun d => ((D.vi (D.at d 0)))) (fun s7 => .tup [.one (.int .i64 s7)]) fun s7 => ((if s7 < (k : Int) then guardP ((0 : Int) ≤ s7 ∧ s7.toNat < k) (pullD (α := Int) (readD c (s7.toNat * 1) 1 false) (fun d => ((D.vi d))) (fun v0 => .one (.int .i64 v0)) fun v0 => ((if v0 ≠ (0 : Int) then some (.out 1 [.one (.int .i64 v0)]) else some (.next 0 [.one (.int .i64 (IntKind.i64.wrap (s7 + (1 : Int))))])))) else some (.out 0 [])))
def firstOf_L2_S (k : Nat) (c : List D)  : Go.Ev.Rd → Option Go.Ev.Rd
  | .next 0 ds => firstOf_L2_S0 k c ds
  | _ => none
theorem firstOf_L2_S_ok (k : Nat) (c : List D)  : ∀ s_ t_, firstOf_L2_S k c s_ = some t_ → Step (ctx [83] firstOf_sp) Tabs firstOf_L2_A (stateOf (firstOf_L2_gs k c s_)) (stateOf (firstOf_L2_gs k c t_)) (firstOf_L2_ax t_) ∧ EndOK firstOf_L2_A.nx firstOf_L2_A.low (firstOf_L2_gs k c) t_
  | .next 0 ds, t_, h => by
    have h_ : firstOf_L2_S0 k c ds = some t_ := h
    clear h
    unfold firstOf_L2_S0 at h_
    obtain ⟨s7, e0, h0⟩ := pullD_elim h_
    clear h_
    obtain rfl := tup_inj e0
    by_cases b1_ : s7 < (k : Int)
    · have h2_ := (if_pos b1_).symm.trans h0
      obtain ⟨f3_, h4_⟩ := guardP_elim h2_
      obtain ⟨v0, f5_, h6_⟩ := pullD_elim h4_
      replace f5_ := readD_elim f5_
      by_cases b7_ : v0 ≠ (0 : Int)
      · have h8_ := (if_pos b7_).symm.trans h6_
        obtain rfl := Option.some.inj h8_
        exact ⟨step_pc 3000 (bT 2 []) [.one (.int .i64 v0)] [c_d b1_, c_f f3_, c_f f5_, c_b b7_] [] _ rfl (by kernel_rfl) (by kernel_rfl) (by kernel_rfl) (by kernel_rfl) (by kernel_rfl) (by kernel_rfl), by kernel_rfl, by kernel_rfl⟩
      · have h8_ := (if_neg b7_).symm.trans h6_
        have b9_ : v0 = (0 : Int) := by first | exact b7_ | simpa using b7_
        obtain rfl := Option.some.inj h8_
        exact ⟨step_pc 3000 (bT 1 (bF 1 [])) [.one (.int .i64 v0)] [c_d b1_, c_f f3_, c_f f5_, c_bn b9_] [] _ rfl (by kernel_rfl) (by kernel_rfl) (by kernel_rfl) (by kernel_rfl) (by kernel_rfl) (by kernel_rfl), trivial⟩
    · have h2_ := (if_neg b1_).symm.trans h0
      obtain rfl := Option.some.inj h2_
      exact ⟨step_pc 3000 (bF 1 []) [] [c_n b1_] [] _ rfl (by kernel_rfl) (by kernel_rfl) (by kernel_rfl) (by kernel_rfl) (by kernel_rfl) (by kernel_rfl), by kernel_rfl, by kernel_rfl⟩
  | .next (_ + 1) _, _, h => by cases h
  | .out _ _, _, h => by cases h
theorem firstOf_L2_go (k : Nat) (c : List D)  {q : Nat} {ds : List D} {j : Nat} {es : List D} (h : runR (firstOf_L2_S k c) (.next q ds) = some (.out j es)) : Runs (ctx [83] firstOf_sp) Tabs firstOf_L2_A (stateOf (firstOf_L2_gs k c (.next q ds))) (stateOf (firstOf_L2_gs k c (.out j es))) (firstOf_L2_ax (.out j es)) ∧ (nxtOf (firstOf_L2_gs k c (.out j es)), lowGS (firstOf_L2_gs k c (.out j es))) = (firstOf_L2_A.nx, firstOf_L2_A.low) :=
  runs_of' (good true _ _) firstOf_L2_ok (ax := firstOf_L2_ax) (fun _ _ => rfl) (fun _ _ => axOf_end _) (firstOf_L2_S_ok k c) h
theorem firstOf_L2_in0 (k : Nat) (c : List D)  {es : List D} (h : runR (firstOf_L2_S k c) (.next 0 [.one (.int .i64 ((0 : Int)))]) = some (.out 0 es)) : LoopC (loopAt Try.prog 83 0) (firstOf_L2_E k c) 1 noFrame firstOf_x2_0 es :=
  have r := firstOf_L2_go k c h
  loopin_as rfl (loop_in (l := firstOf_L2_A) (E := (firstOf_L2_E k c)) (S := stateOf (firstOf_L2_gs k c (.next 0 [.one (.int .i64 ((0 : Int)))]))) (ns := nsOf (firstOf_L2_gs k c (.next 0 [.one (.int .i64 ((0 : Int)))]))) firstOf_L2_ok r.1 r.2 (by kernel_rfl) (by kernel_rfl) (by kernel_rfl) (by kernel_rfl))
theorem firstOf_L2_in1 (k : Nat) (c : List D)  {es : List D} (h : runR (firstOf_L2_S k c) (.next 0 [.one (.int .i64 ((0 : Int)))]) = some (.out 1 es)) : LoopC (loopAt Try.prog 83 0) (firstOf_L2_E k c) 1 noFrame firstOf_x2_1 es :=
  have r := firstOf_L2_go k c h
  loopin_as rfl (loop_in (l := firstOf_L2_A) (E := (firstOf_L2_E k c)) (S := stateOf (firstOf_L2_gs k c (.next 0 [.one (.int .i64 ((0 : Int)))]))) (ns := nsOf (firstOf_L2_gs k c (.next 0 [.one (.int .i64 ((0 : Int)))]))) firstOf_L2_ok r.1 r.2 (by kernel_rfl) (by kernel_rfl) (by kernel_rfl) (by kernel_rfl))
def firstOf_M (k : Nat) (c : List D) : Option D := bindL (runR (firstOf_L2_S k c) (.next 0 [.one (.int .i64 ((0 : Int)))])) fun j ds => (if j = 0 then pullD (some (.tup ds)) (fun _ => ()) (fun _ => .tup []) fun _ => (some (.one (.int .i64 (0 : Int)))) else if j = 1 then pullD (α := Int) (some (.tup ds)) (fun d => ((D.vi (D.at d 0)))) (fun l0 => .tup [.one (.int .i64 l0)]) fun l0 => (some (.one (.int .i64 l0))) else none)
theorem firstOf_M_ok (k : Nat) (c : List D) {r : D} (h : firstOf_M k c = some r) : Con 83 [.list k c] r := by
  unfold firstOf_M at h
  obtain ⟨j, ds, e1_, h2_⟩ := bindL_elim h
  by_cases j3_ : j = 0
  · have h6_ := (if_pos j3_).symm.trans h2_
    clear h2_
    subst j3_
    obtain ⟨⟨⟩, e4_, h7_⟩ := pullD_elim h6_
    clear h6_
    obtain rfl := tup_inj e4_
    have k5_ := firstOf_L2_in0 k c e1_
    obtain rfl := Option.some.inj h7_
    exact con_pc (op := true) (I := [83]) (sp := firstOf_sp) 3000 [] [.tup [.one (.int .i64 (Int.ofNat 0))]] [] [k_l k5_ [] [.tup [.one (.int .i64 (Int.ofNat 0))]] []] (by kernel_rfl)
  have h8_ := (if_neg j3_).symm.trans h2_
  clear h2_
  by_cases j9_ : j = 1
  · have h12_ := (if_pos j9_).symm.trans h8_
    clear h8_
    subst j9_
    obtain ⟨l0, e10_, h13_⟩ := pullD_elim h12_
    clear h12_
    obtain rfl := tup_inj e10_
    have k11_ := firstOf_L2_in1 k c e1_
    obtain rfl := Option.some.inj h13_
    exact con_pc (op := true) (I := [83]) (sp := firstOf_sp) 3000 [] [.tup [.one (.int .i64 (Int.ofNat 1)), .one (.int .i64 l0)]] [] [k_l k11_ [] [.tup [.one (.int .i64 (Int.ofNat 1)), .one (.int .i64 l0)]] []] (by kernel_rfl)
  have h14_ := (if_neg j9_).symm.trans h8_
  clear h8_
  cases h14_
def m_83 (ds : List D) : Option D := pullD (α := Nat × (List D)) (some (.tup ds)) (fun d => ((D.ln (D.at d 0)), (D.lc (D.at d 0)))) (fun (k, c) => .tup [.list k c]) fun (k, c) => firstOf_M k c
theorem m_83_ok {ds : List D} {r : D} (h : m_83 ds = some r) : Con 83 ds r := by
  unfold m_83 at h
  obtain ⟨⟨k, c⟩, e0, h0⟩ := pullD_elim h
  obtain rfl := tup_inj e0
  exact firstOf_M_ok k c h0
theorem m_83_eq (k : Nat) (c : List D) : m_83 [.list k c] = firstOf_M k c := pullD_some (k, c) rfl rfl
def divisor_x1_0 : LExit := ⟨some 0, [.val 0], (1 :: (List.range' 5 6))⟩
def divisor_sp : List LSpec := [⟨137, 1, [divisor_x1_0]⟩]
def divisor_L1_E (a b : Int)  : List AV × AHeap := ([.pure (.int .i64 a), .pure (.int .i64 b), .pure (.tuple #[]), .pure (.tuple #[]), .pure (.int .i64 (0 : Int)), .pure (.tuple #[]), .pure (.tuple #[]), .pure (.tuple #[]), .pure (.tuple #[]), .pure (.tuple #[]), .pure (.tuple #[]), .pure (.tuple #[]), .pure (.tuple #[]), .pure (.tuple #[]), .pure (.tuple #[])], [])
def divisor_L1_A : LoopAt := ⟨137, loopAt Try.prog 137 0, 0, 8, 0, noFrame⟩
theorem divisor_L1_ok : (divisor_L1_A).OK := ⟨by show 0 ≤ 8; decide, by show 0 ≤ 0; decide, by kernel_rfl, rfl⟩
def divisor_L1_gs (a b : Int)  : Go.Ev.Rd → Option GS
  | .next 0 ds => ghost [.val 0, .val 1] (List.range' 5 6) (divisor_L1_E a b).1 (divisor_L1_E a b).2 0 ds
  | .out 0 ds => ghost divisor_x1_0.live divisor_x1_0.junk (divisor_L1_E a b).1 (divisor_L1_E a b).2 0 ds
  | _ => none
def divisor_L1_ex : Nat → Option Nat
  | 0 => divisor_x1_0.ex
  | _ => none
def divisor_L1_ax : Go.Ev.Rd → AX
  | .next _ _ => .normal
  | .out j _ => axOf (divisor_L1_ex j)
def divisor_L1_S0 (a b : Int)  (ds : List D) : Option Go.Ev.Rd := pullD (α := Int × Int) (some (.tup ds)) (fun d => ((D.vi (D.at d 0)), (D.vi (D.at d 1)))) (fun (s0, s1) => .tup [.one (.int .i64 s0), .one (.int .i64 s1)]) fun (s0, s1) => ((if s1 ≠ (0 : Int) then some (.next 0 [.one (.int .i64 s1), .one (.int .i64 (s0.tmod s1))]) else some (.out 0 [.one (.int .i64 s0)])))
def divisor_L1_S (a b : Int)  : Go.Ev.Rd → Option Go.Ev.Rd
  | .next 0 ds => divisor_L1_S0 a b ds
  | _ => none
theorem divisor_L1_S_ok (a b : Int)  : ∀ s_ t_, divisor_L1_S a b s_ = some t_ → Step (ctx [137] divisor_sp) Tabs divisor_L1_A (stateOf (divisor_L1_gs a b s_)) (stateOf (divisor_L1_gs a b t_)) (divisor_L1_ax t_) ∧ EndOK divisor_L1_A.nx divisor_L1_A.low (divisor_L1_gs a b) t_
  | .next 0 ds, t_, h => by
    have h_ : divisor_L1_S0 a b ds = some t_ := h
    clear h
    unfold divisor_L1_S0 at h_
    obtain ⟨⟨s0, s1⟩, e0, h0⟩ := pullD_elim h_
    clear h_
    obtain rfl := tup_inj e0
    by_cases b1_ : s1 ≠ (0 : Int)
    · have h2_ := (if_pos b1_).symm.trans h0
      obtain rfl := Option.some.inj h2_
      exact ⟨step_pc 3000 (bT 1 []) [] [c_b b1_, c_en b1_] [] _ rfl (by kernel_rfl) (by kernel_rfl) (by kernel_rfl) (by kernel_rfl) (by kernel_rfl) (by kernel_rfl), trivial⟩
    · have h2_ := (if_neg b1_).symm.trans h0
      have b3_ : s1 = (0 : Int) := by first | exact b1_ | simpa using b1_
      obtain rfl := Option.some.inj h2_
      exact ⟨step_pc 3000 (bF 1 []) [] [c_bn b3_] [] _ rfl (by kernel_rfl) (by kernel_rfl) (by kernel_rfl) (by kernel_rfl) (by kernel_rfl) (by kernel_rfl), by kernel_rfl, by kernel_rfl⟩
  | .next (_ + 1) _, _, h => by cases h
  | .out _ _, _, h => by cases h
theorem divisor_L1_go (a b : Int)  {q : Nat} {ds : List D} {j : Nat} {es : List D} (h : runR (divisor_L1_S a b) (.next q ds) = some (.out j es)) : Runs (ctx [137] divisor_sp) Tabs divisor_L1_A (stateOf (divisor_L1_gs a b (.next q ds))) (stateOf (divisor_L1_gs a b (.out j es))) (divisor_L1_ax (.out j es)) ∧ (nxtOf (divisor_L1_gs a b (.out j es)), lowGS (divisor_L1_gs a b (.out j es))) = (divisor_L1_A.nx, divisor_L1_A.low) :=
  runs_of' (good true _ _) divisor_L1_ok (ax := divisor_L1_ax) (fun _ _ => rfl) (fun _ _ => axOf_end _) (divisor_L1_S_ok a b) h
theorem divisor_L1_in0 (a b : Int)  {es : List D} (h : runR (divisor_L1_S a b) (.next 0 [.one (.int .i64 (a)), .one (.int .i64 (b))]) = some (.out 0 es)) : LoopC (loopAt Try.prog 137 0) (divisor_L1_E a b) 0 noFrame divisor_x1_0 es :=
  have r := divisor_L1_go a b h
  loopin_as rfl (loop_in (l := divisor_L1_A) (E := (divisor_L1_E a b)) (S := stateOf (divisor_L1_gs a b (.next 0 [.one (.int .i64 (a)), .one (.int .i64 (b))]))) (ns := nsOf (divisor_L1_gs a b (.next 0 [.one (.int .i64 (a)), .one (.int .i64 (b))]))) divisor_L1_ok r.1 r.2 (by kernel_rfl) (by kernel_rfl) (by kernel_rfl) (by kernel_rfl))
def divisor_M (a b : Int) : Option D := bindL (runR (divisor_L1_S a b) (.next 0 [.one (.int .i64 (a)), .one (.int .i64 (b))])) fun j ds => (if j = 0 then pullD (α := Int) (some (.tup ds)) (fun d => ((D.vi (D.at d 0)))) (fun l0 => .tup [.one (.int .i64 l0)]) fun l0 => (some (.one (.int .i64 (if IntKind.i64.wrap ((0 : Int) - l0) > l0 then IntKind.i64.wrap ((0 : Int) - l0) else l0)))) else none)
theorem divisor_M_ok (a b : Int) {r : D} (h : divisor_M a b = some r) : Con 137 [.one (.int .i64 a), .one (.int .i64 b)] r := by
  unfold divisor_M at h
  obtain ⟨j, ds, e1_, h2_⟩ := bindL_elim h
  by_cases j3_ : j = 0
  · have h6_ := (if_pos j3_).symm.trans h2_
    clear h2_
    subst j3_
    obtain ⟨l0, e4_, h7_⟩ := pullD_elim h6_
    clear h6_
    obtain rfl := tup_inj e4_
    have k5_ := divisor_L1_in0 a b e1_
    obtain rfl := Option.some.inj h7_
    exact con_pc (op := true) (I := [137]) (sp := divisor_sp) 3000 [] [.tup [.one (.int .i64 (Int.ofNat 0)), .one (.int .i64 l0)]] [] [k_l k5_ [] [.tup [.one (.int .i64 (Int.ofNat 0)), .one (.int .i64 l0)]] []] (by kernel_rfl)
  have h8_ := (if_neg j3_).symm.trans h2_
  clear h2_
  cases h8_
def m_137 (ds : List D) : Option D := pullD (α := Int × Int) (some (.tup ds)) (fun d => ((D.vi (D.at d 0)), (D.vi (D.at d 1)))) (fun (a, b) => .tup [.one (.int .i64 a), .one (.int .i64 b)]) fun (a, b) => divisor_M a b
theorem m_137_ok {ds : List D} {r : D} (h : m_137 ds = some r) : Con 137 ds r := by
  unfold m_137 at h
  obtain ⟨⟨a, b⟩, e0, h0⟩ := pullD_elim h
  obtain rfl := tup_inj e0
  exact divisor_M_ok a b h0
theorem m_137_eq (a b : Int) : m_137 [.one (.int .i64 a), .one (.int .i64 b)] = divisor_M a b := pullD_some (a, b) rfl rfl
def size_sp : List LSpec := []
def size_M (n : Int) : Option D := some (.one (.int .i64 (if IntKind.i64.wrap ((0 : Int) - n) > n then IntKind.i64.wrap ((0 : Int) - n) else n)))
theorem size_M_ok (n : Int) {r : D} (h : size_M n = some r) : Con 91 [.one (.int .i64 n)] r := by
  unfold size_M at h
  obtain rfl := Option.some.inj h
  exact con_pc (op := true) (I := [91]) (sp := size_sp) 3000 [] [] [] [] (by kernel_rfl)
def m_91 (ds : List D) : Option D := pullD (α := Int) (some (.tup ds)) (fun d => ((D.vi (D.at d 0)))) (fun n => .tup [.one (.int .i64 n)]) fun n => size_M n
theorem m_91_ok {ds : List D} {r : D} (h : m_91 ds = some r) : Con 91 ds r := by
  unfold m_91 at h
  obtain ⟨n, e0, h0⟩ := pullD_elim h
  obtain rfl := tup_inj e0
  exact size_M_ok n h0
theorem m_91_eq (n : Int) : m_91 [.one (.int .i64 n)] = size_M n := pullD_some n rfl rfl
def gcd_x1_0 : LExit := ⟨some 0, [.val 0], (1 :: (List.range' 5 6))⟩
def gcd_sp : List LSpec := [⟨106, 1, [gcd_x1_0]⟩]
def gcd_L1_E (a b : Int)  : List AV × AHeap := ([.pure (.int .i64 a), .pure (.int .i64 b), .pure (.tuple #[]), .pure (.tuple #[]), .pure (.int .i64 (0 : Int)), .pure (.tuple #[]), .pure (.tuple #[]), .pure (.tuple #[]), .pure (.tuple #[]), .pure (.tuple #[]), .pure (.tuple #[]), .pure (.tuple #[]), .pure (.tuple #[])], [])
def gcd_L1_A : LoopAt := ⟨106, loopAt Try.prog 106 0, 0, 8, 0, noFrame⟩
theorem gcd_L1_ok : (gcd_L1_A).OK := ⟨by show 0 ≤ 8; decide, by show 0 ≤ 0; decide, by kernel_rfl, rfl⟩
def gcd_L1_gs (a b : Int)  : Go.Ev.Rd → Option GS
  | .next 0 ds => ghost [.val 0, .val 1] (List.range' 5 6) (gcd_L1_E a b).1 (gcd_L1_E a b).2 0 ds
  | .out 0 ds => ghost gcd_x1_0.live gcd_x1_0.junk (gcd_L1_E a b).1 (gcd_L1_E a b).2 0 ds
  | _ => none
def gcd_L1_ex : Nat → Option Nat
  | 0 => gcd_x1_0.ex
  | _ => none
def gcd_L1_ax : Go.Ev.Rd → AX
  | .next _ _ => .normal
  | .out j _ => axOf (gcd_L1_ex j)
def gcd_L1_S0 (a b : Int)  (ds : List D) : Option Go.Ev.Rd := pullD (α := Int × Int) (some (.tup ds)) (fun d => ((D.vi (D.at d 0)), (D.vi (D.at d 1)))) (fun (s0, s1) => .tup [.one (.int .i64 s0), .one (.int .i64 s1)]) fun (s0, s1) => ((if s1 ≠ (0 : Int) then some (.next 0 [.one (.int .i64 s1), .one (.int .i64 (s0.tmod s1))]) else some (.out 0 [.one (.int .i64 s0)])))
def gcd_L1_S (a b : Int)  : Go.Ev.Rd → Option Go.Ev.Rd
  | .next 0 ds => gcd_L1_S0 a b ds
  | _ => none
theorem gcd_L1_S_ok (a b : Int)  : ∀ s_ t_, gcd_L1_S a b s_ = some t_ → Step (ctx [106] gcd_sp) Tabs gcd_L1_A (stateOf (gcd_L1_gs a b s_)) (stateOf (gcd_L1_gs a b t_)) (gcd_L1_ax t_) ∧ EndOK gcd_L1_A.nx gcd_L1_A.low (gcd_L1_gs a b) t_
  | .next 0 ds, t_, h => by
    have h_ : gcd_L1_S0 a b ds = some t_ := h
    clear h
    unfold gcd_L1_S0 at h_
    obtain ⟨⟨s0, s1⟩, e0, h0⟩ := pullD_elim h_
    clear h_
    obtain rfl := tup_inj e0
    by_cases b1_ : s1 ≠ (0 : Int)
    · have h2_ := (if_pos b1_).symm.trans h0
      obtain rfl := Option.some.inj h2_
      exact ⟨step_pc 3000 (bT 1 []) [] [c_b b1_, c_en b1_] [] _ rfl (by kernel_rfl) (by kernel_rfl) (by kernel_rfl) (by kernel_rfl) (by kernel_rfl) (by kernel_rfl), trivial⟩
    · have h2_ := (if_neg b1_).symm.trans h0
      have b3_ : s1 = (0 : Int) := by first | exact b1_ | simpa using b1_
      obtain rfl := Option.some.inj h2_
      exact ⟨step_pc 3000 (bF 1 []) [] [c_bn b3_] [] _ rfl (by kernel_rfl) (by kernel_rfl) (by kernel_rfl) (by kernel_rfl) (by kernel_rfl) (by kernel_rfl), by kernel_rfl, by kernel_rfl⟩
  | .next (_ + 1) _, _, h => by cases h
  | .out _ _, _, h => by cases h
theorem gcd_L1_go (a b : Int)  {q : Nat} {ds : List D} {j : Nat} {es : List D} (h : runR (gcd_L1_S a b) (.next q ds) = some (.out j es)) : Runs (ctx [106] gcd_sp) Tabs gcd_L1_A (stateOf (gcd_L1_gs a b (.next q ds))) (stateOf (gcd_L1_gs a b (.out j es))) (gcd_L1_ax (.out j es)) ∧ (nxtOf (gcd_L1_gs a b (.out j es)), lowGS (gcd_L1_gs a b (.out j es))) = (gcd_L1_A.nx, gcd_L1_A.low) :=
  runs_of' (good true _ _) gcd_L1_ok (ax := gcd_L1_ax) (fun _ _ => rfl) (fun _ _ => axOf_end _) (gcd_L1_S_ok a b) h
theorem gcd_L1_in0 (a b : Int)  {es : List D} (h : runR (gcd_L1_S a b) (.next 0 [.one (.int .i64 (a)), .one (.int .i64 (b))]) = some (.out 0 es)) : LoopC (loopAt Try.prog 106 0) (gcd_L1_E a b) 0 noFrame gcd_x1_0 es :=
  have r := gcd_L1_go a b h
  loopin_as rfl (loop_in (l := gcd_L1_A) (E := (gcd_L1_E a b)) (S := stateOf (gcd_L1_gs a b (.next 0 [.one (.int .i64 (a)), .one (.int .i64 (b))]))) (ns := nsOf (gcd_L1_gs a b (.next 0 [.one (.int .i64 (a)), .one (.int .i64 (b))]))) gcd_L1_ok r.1 r.2 (by kernel_rfl) (by kernel_rfl) (by kernel_rfl) (by kernel_rfl))
def gcd_M (a b : Int) : Option D := bindL (runR (gcd_L1_S a b) (.next 0 [.one (.int .i64 (a)), .one (.int .i64 (b))])) fun j ds => (if j = 0 then pullD (α := Int) (some (.tup ds)) (fun d => ((D.vi (D.at d 0)))) (fun l0 => .tup [.one (.int .i64 l0)]) fun l0 => (pullD (α := Int) (m_91 [.one (.int .i64 l0)]) (fun d => ((D.vi d))) (fun r1 => .one (.int .i64 r1)) fun r1 => (some (.one (.int .i64 r1)))) else none)
theorem gcd_M_ok (a b : Int) {r : D} (h : gcd_M a b = some r) : Con 106 [.one (.int .i64 a), .one (.int .i64 b)] r := by
  unfold gcd_M at h
  obtain ⟨j, ds, e1_, h2_⟩ := bindL_elim h
  by_cases j3_ : j = 0
  · have h6_ := (if_pos j3_).symm.trans h2_
    clear h2_
    subst j3_
    obtain ⟨l0, e4_, h7_⟩ := pullD_elim h6_
    clear h6_
    obtain rfl := tup_inj e4_
    have k5_ := gcd_L1_in0 a b e1_
    obtain ⟨r1, f8_, h9_⟩ := pullD_elim h7_
    replace f8_ := m_91_ok f8_
    obtain rfl := Option.some.inj h9_
    exact con_pc (op := true) (I := [106]) (sp := gcd_sp) 3000 [] [.tup [.one (.int .i64 (Int.ofNat 0)), .one (.int .i64 l0)], .one (.int .i64 r1)] [] [k_l k5_ [] [.tup [.one (.int .i64 (Int.ofNat 0)), .one (.int .i64 l0)], .one (.int .i64 r1)] [.one (.int .i64 r1)], k_c f8_] (by kernel_rfl)
  have h10_ := (if_neg j3_).symm.trans h2_
  clear h2_
  cases h10_
def m_106 (ds : List D) : Option D := pullD (α := Int × Int) (some (.tup ds)) (fun d => ((D.vi (D.at d 0)), (D.vi (D.at d 1)))) (fun (a, b) => .tup [.one (.int .i64 a), .one (.int .i64 b)]) fun (a, b) => gcd_M a b
theorem m_106_ok {ds : List D} {r : D} (h : m_106 ds = some r) : Con 106 ds r := by
  unfold m_106 at h
  obtain ⟨⟨a, b⟩, e0, h0⟩ := pullD_elim h
  obtain rfl := tup_inj e0
  exact gcd_M_ok a b h0
theorem m_106_eq (a b : Int) : m_106 [.one (.int .i64 a), .one (.int .i64 b)] = gcd_M a b := pullD_some (a, b) rfl rfl
def lowest_sp : List LSpec := []
def lowest_M (n d : Int) : Option D := pullD (α := Int) (m_106 [.one (.int .i64 n), .one (.int .i64 d)]) (fun d => ((D.vi d))) (fun r0 => .one (.int .i64 r0)) fun r0 => ((if d < (0 : Int) then guardP (IntKind.i64.wrap ((0 : Int) - r0) ≠ (0 : Int)) (some (.agg [.one (.int .i64 (IntKind.i64.wrap (n.tdiv (IntKind.i64.wrap ((0 : Int) - r0))))), .one (.int .i64 (IntKind.i64.wrap (d.tdiv (IntKind.i64.wrap ((0 : Int) - r0)))))])) else guardP (r0 ≠ (0 : Int)) (some (.agg [.one (.int .i64 (IntKind.i64.wrap (n.tdiv r0))), .one (.int .i64 (IntKind.i64.wrap (d.tdiv r0)))]))))
theorem lowest_M_ok (n d : Int) {r : D} (h : lowest_M n d = some r) : Con 104 [.one (.int .i64 n), .one (.int .i64 d)] r := by
  unfold lowest_M at h
  obtain ⟨r0, f1_, h2_⟩ := pullD_elim h
  replace f1_ := m_106_ok f1_
  by_cases b3_ : d < (0 : Int)
  · have h4_ := (if_pos b3_).symm.trans h2_
    obtain ⟨f5_, h6_⟩ := guardP_elim h4_
    obtain rfl := Option.some.inj h6_
    exact con_pc (op := true) (I := [104]) (sp := lowest_sp) 3000 (bT 1 []) [.one (.int .i64 r0)] [c_d b3_, c_en f5_, c_en f5_] [k_c f1_] (by kernel_rfl)
  · have h4_ := (if_neg b3_).symm.trans h2_
    obtain ⟨f7_, h8_⟩ := guardP_elim h4_
    obtain rfl := Option.some.inj h8_
    exact con_pc (op := true) (I := [104]) (sp := lowest_sp) 3000 (bF 1 []) [.one (.int .i64 r0)] [c_n b3_, c_en f7_, c_en f7_] [k_c f1_] (by kernel_rfl)
def m_104 (ds : List D) : Option D := pullD (α := Int × Int) (some (.tup ds)) (fun d => ((D.vi (D.at d 0)), (D.vi (D.at d 1)))) (fun (n, d) => .tup [.one (.int .i64 n), .one (.int .i64 d)]) fun (n, d) => lowest_M n d
theorem m_104_ok {ds : List D} {r : D} (h : m_104 ds = some r) : Con 104 ds r := by
  unfold m_104 at h
  obtain ⟨⟨n, d⟩, e0, h0⟩ := pullD_elim h
  obtain rfl := tup_inj e0
  exact lowest_M_ok n d h0
theorem m_104_eq (n d : Int) : m_104 [.one (.int .i64 n), .one (.int .i64 d)] = lowest_M n d := pullD_some (n, d) rfl rfl
def reduced_sp : List LSpec := []
def reduced_M (n d : Int) : Option D := pullD (α := Int) (m_137 [.one (.int .i64 n), .one (.int .i64 d)]) (fun d => ((D.vi d))) (fun r0 => .one (.int .i64 r0)) fun r0 => (guardP (r0 ≠ (0 : Int)) (some (.agg [.one (.int .i64 (IntKind.i64.wrap (n.tdiv r0))), .one (.int .i64 (IntKind.i64.wrap (d.tdiv r0)))])))
theorem reduced_M_ok (n d : Int) {r : D} (h : reduced_M n d = some r) : Con 119 [.one (.int .i64 n), .one (.int .i64 d)] r := by
  unfold reduced_M at h
  obtain ⟨r0, f1_, h2_⟩ := pullD_elim h
  replace f1_ := m_137_ok f1_
  obtain ⟨f3_, h4_⟩ := guardP_elim h2_
  obtain rfl := Option.some.inj h4_
  exact con_pc (op := true) (I := [119]) (sp := reduced_sp) 3000 [] [.one (.int .i64 r0)] [c_en f3_, c_en f3_] [k_c f1_] (by kernel_rfl)
def m_119 (ds : List D) : Option D := pullD (α := Int × Int) (some (.tup ds)) (fun d => ((D.vi (D.at d 0)), (D.vi (D.at d 1)))) (fun (n, d) => .tup [.one (.int .i64 n), .one (.int .i64 d)]) fun (n, d) => reduced_M n d
theorem m_119_ok {ds : List D} {r : D} (h : m_119 ds = some r) : Con 119 ds r := by
  unfold m_119 at h
  obtain ⟨⟨n, d⟩, e0, h0⟩ := pullD_elim h
  obtain rfl := tup_inj e0
  exact reduced_M_ok n d h0
theorem m_119_eq (n d : Int) : m_119 [.one (.int .i64 n), .one (.int .i64 d)] = reduced_M n d := pullD_some (n, d) rfl rfl
def isLowest_sp : List LSpec := []
def isLowest_M (n d : Int) : Option D := (if d > (0 : Int) then pullD (α := Int) (m_106 [.one (.int .i64 n), .one (.int .i64 d)]) (fun d => ((D.vi d))) (fun r0 => .one (.int .i64 r0)) fun r0 => (some (.one (.bool (r0 == (1 : Int))))) else some (.one (.bool false)))
theorem isLowest_M_ok (n d : Int) {r : D} (h : isLowest_M n d = some r) : Con 47 [.agg [.one (.int .i64 n), .one (.int .i64 d)]] r := by
  unfold isLowest_M at h
  by_cases b1_ : d > (0 : Int)
  · have h2_ := (if_pos b1_).symm.trans h
    obtain ⟨r0, f3_, h4_⟩ := pullD_elim h2_
    replace f3_ := m_106_ok f3_
    obtain rfl := Option.some.inj h4_
    exact con_pc (op := true) (I := [47]) (sp := isLowest_sp) 3000 (bT 7 []) [.one (.int .i64 r0)] [c_d b1_, c_d b1_, c_d b1_, c_d b1_, c_d b1_, c_d b1_, c_d b1_] [k_c f3_] (by kernel_rfl)
  · have h2_ := (if_neg b1_).symm.trans h
    obtain rfl := Option.some.inj h2_
    exact con_pc (op := true) (I := [47]) (sp := isLowest_sp) 3000 (bF 7 []) [] [c_n b1_, c_n b1_, c_n b1_, c_n b1_, c_n b1_, c_n b1_, c_n b1_] [] (by kernel_rfl)
def m_47 (ds : List D) : Option D := pullD (α := Int × Int) (some (.tup ds)) (fun d => ((D.vi (D.at (D.at d 0) 0)), (D.vi (D.at (D.at d 0) 1)))) (fun (n, d) => .tup [.agg [.one (.int .i64 n), .one (.int .i64 d)]]) fun (n, d) => isLowest_M n d
theorem m_47_ok {ds : List D} {r : D} (h : m_47 ds = some r) : Con 47 ds r := by
  unfold m_47 at h
  obtain ⟨⟨n, d⟩, e0, h0⟩ := pullD_elim h
  obtain rfl := tup_inj e0
  exact isLowest_M_ok n d h0
theorem m_47_eq (n d : Int) : m_47 [.agg [.one (.int .i64 n), .one (.int .i64 d)]] = isLowest_M n d := pullD_some (n, d) rfl rfl
def roundedUp_sp : List LSpec := []
def roundedUp_M (n d : Int) : Option D := guardP (d ≠ (0 : Int)) (some (.one (.int .i64 (IntKind.i64.wrap ((IntKind.i64.wrap (IntKind.i64.wrap (n + d) - (1 : Int))).tdiv d)))))
theorem roundedUp_M_ok (n d : Int) {r : D} (h : roundedUp_M n d = some r) : Con 154 [.one (.int .i64 n), .one (.int .i64 d)] r := by
  unfold roundedUp_M at h
  obtain ⟨f1_, h2_⟩ := guardP_elim h
  obtain rfl := Option.some.inj h2_
  exact con_pc (op := true) (I := [154]) (sp := roundedUp_sp) 3000 [] [] [c_en f1_] [] (by kernel_rfl)
def m_154 (ds : List D) : Option D := pullD (α := Int × Int) (some (.tup ds)) (fun d => ((D.vi (D.at d 0)), (D.vi (D.at d 1)))) (fun (n, d) => .tup [.one (.int .i64 n), .one (.int .i64 d)]) fun (n, d) => roundedUp_M n d
theorem m_154_ok {ds : List D} {r : D} (h : m_154 ds = some r) : Con 154 ds r := by
  unfold m_154 at h
  obtain ⟨⟨n, d⟩, e0, h0⟩ := pullD_elim h
  obtain rfl := tup_inj e0
  exact roundedUp_M_ok n d h0
theorem m_154_eq (n d : Int) : m_154 [.one (.int .i64 n), .one (.int .i64 d)] = roundedUp_M n d := pullD_some (n, d) rfl rfl
def forceAt_sp : List LSpec := []
def forceAt_M (u n d : Int) : Option D := pullD (α := Int) (m_154 [.one (.int .i64 (IntKind.i64.wrap (IntKind.i64.wrap (u * n) * n))), .one (.int .i64 (IntKind.i64.wrap (d * d)))]) (fun d => ((D.vi d))) (fun r0 => .one (.int .i64 r0)) fun r0 => (some (.one (.int .i64 r0)))
theorem forceAt_M_ok (u n d : Int) {r : D} (h : forceAt_M u n d = some r) : Con 144 [.one (.int .i64 u), .agg [.one (.int .i64 n), .one (.int .i64 d)]] r := by
  unfold forceAt_M at h
  obtain ⟨r0, f1_, h2_⟩ := pullD_elim h
  replace f1_ := m_154_ok f1_
  obtain rfl := Option.some.inj h2_
  exact con_pc (op := true) (I := [144]) (sp := forceAt_sp) 3000 [] [.one (.int .i64 r0)] [] [k_c f1_] (by kernel_rfl)
def m_144 (ds : List D) : Option D := pullD (α := Int × Int × Int) (some (.tup ds)) (fun d => ((D.vi (D.at d 0)), (D.vi (D.at (D.at d 1) 0)), (D.vi (D.at (D.at d 1) 1)))) (fun (u, n, d) => .tup [.one (.int .i64 u), .agg [.one (.int .i64 n), .one (.int .i64 d)]]) fun (u, n, d) => forceAt_M u n d
theorem m_144_ok {ds : List D} {r : D} (h : m_144 ds = some r) : Con 144 ds r := by
  unfold m_144 at h
  obtain ⟨⟨u, n, d⟩, e0, h0⟩ := pullD_elim h
  obtain rfl := tup_inj e0
  exact forceAt_M_ok u n d h0
theorem m_144_eq (u n d : Int) : m_144 [.one (.int .i64 u), .agg [.one (.int .i64 n), .one (.int .i64 d)]] = forceAt_M u n d := pullD_some (u, n, d) rfl rfl
def answerOf_sp : List LSpec := []
def answerOf_M (a b c d : Int) : Option D := (if a ≥ d then some (.one (.int .i64 (2 : Int))) else (if b < c then some (.one (.int .i64 (0 : Int))) else some (.one (.int .i64 (1 : Int)))))
theorem answerOf_M_ok (a b c d : Int) {r : D} (h : answerOf_M a b c d = some r) : Con 117 [.agg [.one (.int .i64 a), .one (.int .i64 b)], .agg [.one (.int .i64 c), .one (.int .i64 d)]] r := by
  unfold answerOf_M at h
  by_cases b1_ : a ≥ d
  · have h2_ := (if_pos b1_).symm.trans h
    obtain rfl := Option.some.inj h2_
    exact con_pc (op := true) (I := [117]) (sp := answerOf_sp) 3000 (bT 1 []) [] [c_d b1_] [] (by kernel_rfl)
  · have h2_ := (if_neg b1_).symm.trans h
    by_cases b3_ : b < c
    · have h4_ := (if_pos b3_).symm.trans h2_
      obtain rfl := Option.some.inj h4_
      exact con_pc (op := true) (I := [117]) (sp := answerOf_sp) 3000 (bF 1 (bT 1 [])) [] [c_n b1_, c_d b3_] [] (by kernel_rfl)
    · have h4_ := (if_neg b3_).symm.trans h2_
      obtain rfl := Option.some.inj h4_
      exact con_pc (op := true) (I := [117]) (sp := answerOf_sp) 3000 (bF 2 []) [] [c_n b1_, c_n b3_] [] (by kernel_rfl)
def m_117 (ds : List D) : Option D := pullD (α := Int × Int × Int × Int) (some (.tup ds)) (fun d => ((D.vi (D.at (D.at d 0) 0)), (D.vi (D.at (D.at d 0) 1)), (D.vi (D.at (D.at d 1) 0)), (D.vi (D.at (D.at d 1) 1)))) (fun (a, b, c, d) => .tup [.agg [.one (.int .i64 a), .one (.int .i64 b)], .agg [.one (.int .i64 c), .one (.int .i64 d)]]) fun (a, b, c, d) => answerOf_M a b c d
theorem m_117_ok {ds : List D} {r : D} (h : m_117 ds = some r) : Con 117 ds r := by
  unfold m_117 at h
  obtain ⟨⟨a, b, c, d⟩, e0, h0⟩ := pullD_elim h
  obtain rfl := tup_inj e0
  exact answerOf_M_ok a b c d h0
theorem m_117_eq (a b c d : Int) : m_117 [.agg [.one (.int .i64 a), .one (.int .i64 b)], .agg [.one (.int .i64 c), .one (.int .i64 d)]] = answerOf_M a b c d := pullD_some (a, b, c, d) rfl rfl
def inOrder_x2_0 : LExit := ⟨some 0, [], (2 :: (4 :: (List.range' 7 10)))⟩
def inOrder_x2_1 : LExit := ⟨none, [.val 2], (4 :: (List.range' 7 10))⟩
def inOrder_sp : List LSpec := [⟨102, 2, [inOrder_x2_0, inOrder_x2_1]⟩]
def inOrder_L2_E (k : Nat) (c : List D)  : List AV × AHeap := ([.dsl 0, .pure (.tuple #[]), .pure (.int .i64 (0 : Int)), .pure (.tuple #[]), .pure (.tuple #[]), .dsl 0, .pure (.int .i64 (k : Int)), .pure (.int .i64 (0 : Int)), .pure (.tuple #[]), .pure (.tuple #[]), .pure (.tuple #[]), .pure (.tuple #[]), .pure (.tuple #[]), .pure (.tuple #[]), .pure (.tuple #[]), .pure (.tuple #[]), .pure (.tuple #[])], [(0, { cells := [], opn := none, kind := .deep k c })])
def inOrder_L2_A : LoopAt := ⟨102, loopAt Try.prog 102 0, 1, 13, 1, noFrame⟩
theorem inOrder_L2_ok : (inOrder_L2_A).OK := ⟨by show 1 ≤ 13; decide, by show 1 ≤ 1; decide, by kernel_rfl, rfl⟩
def inOrder_L2_gs (k : Nat) (c : List D)  : Go.Ev.Rd → Option GS
  | .next 0 ds => ghost [.val 7] (2 :: (4 :: (List.range' 8 9))) (inOrder_L2_E k c).1 (inOrder_L2_E k c).2 1 ds
  | .out 0 ds => ghost inOrder_x2_0.live inOrder_x2_0.junk (inOrder_L2_E k c).1 (inOrder_L2_E k c).2 1 ds
  | .out 1 ds => ghost inOrder_x2_1.live inOrder_x2_1.junk (inOrder_L2_E k c).1 (inOrder_L2_E k c).2 1 ds
  | _ => none
def inOrder_L2_ex : Nat → Option Nat
  | 0 => inOrder_x2_0.ex
  | 1 => inOrder_x2_1.ex
  | _ => none
def inOrder_L2_ax : Go.Ev.Rd → AX
  | .next _ _ => .normal
  | .out j _ => axOf (inOrder_L2_ex j)
def inOrder_L2_S0 (k : Nat) (c : List D)  (ds : List D) : Option Go.Ev.Rd := pullD (α := Int) (some (.tup ds)) (fun d => ((D.vi (D.at d 0)))) (fun s7 => .tup [.one (.int .i64 s7)]) fun s7 => ((if s7 < (k : Int) then guardP ((0 : Int) ≤ s7 ∧ s7.toNat < k) (pullD (α := Int × Int) (readD c (s7.toNat * 2) 2 true) (fun d => ((D.vi (D.at d 0)), (D.vi (D.at d 1)))) (fun (v0, v1) => .agg [.one (.int .i64 v0), .one (.int .i64 v1)]) fun (v0, v1) => ((if v0 > v1 then some (.out 1 [.one (.int .i64 (9 : Int))]) else some (.next 0 [.one (.int .i64 (IntKind.i64.wrap (s7 + (1 : Int))))])))) else some (.out 0 [])))
def inOrder_L2_S (k : Nat) (c : List D)  : Go.Ev.Rd → Option Go.Ev.Rd
  | .next 0 ds => inOrder_L2_S0 k c ds
  | _ => none
theorem inOrder_L2_S_ok (k : Nat) (c : List D)  : ∀ s_ t_, inOrder_L2_S k c s_ = some t_ → Step (ctx [102] inOrder_sp) Tabs inOrder_L2_A (stateOf (inOrder_L2_gs k c s_)) (stateOf (inOrder_L2_gs k c t_)) (inOrder_L2_ax t_) ∧ EndOK inOrder_L2_A.nx inOrder_L2_A.low (inOrder_L2_gs k c) t_
  | .next 0 ds, t_, h => by
    have h_ : inOrder_L2_S0 k c ds = some t_ := h
    clear h
    unfold inOrder_L2_S0 at h_
    obtain ⟨s7, e0, h0⟩ := pullD_elim h_
    clear h_
    obtain rfl := tup_inj e0
    by_cases b1_ : s7 < (k : Int)
    · have h2_ := (if_pos b1_).symm.trans h0
      obtain ⟨f3_, h4_⟩ := guardP_elim h2_
      obtain ⟨⟨v0, v1⟩, f5_, h6_⟩ := pullD_elim h4_
      replace f5_ := readD_elim f5_
      by_cases b7_ : v0 > v1
      · have h8_ := (if_pos b7_).symm.trans h6_
        obtain rfl := Option.some.inj h8_
        exact ⟨step_pc 3000 (bT 2 []) [.agg [.one (.int .i64 v0), .one (.int .i64 v1)]] [c_d b1_, c_f f3_, c_f f5_, c_d b7_] [] _ rfl (by kernel_rfl) (by kernel_rfl) (by kernel_rfl) (by kernel_rfl) (by kernel_rfl) (by kernel_rfl), by kernel_rfl, by kernel_rfl⟩
      · have h8_ := (if_neg b7_).symm.trans h6_
        obtain rfl := Option.some.inj h8_
        exact ⟨step_pc 3000 (bT 1 (bF 1 [])) [.agg [.one (.int .i64 v0), .one (.int .i64 v1)]] [c_d b1_, c_f f3_, c_f f5_, c_n b7_] [] _ rfl (by kernel_rfl) (by kernel_rfl) (by kernel_rfl) (by kernel_rfl) (by kernel_rfl) (by kernel_rfl), trivial⟩
    · have h2_ := (if_neg b1_).symm.trans h0
      obtain rfl := Option.some.inj h2_
      exact ⟨step_pc 3000 (bF 1 []) [] [c_n b1_] [] _ rfl (by kernel_rfl) (by kernel_rfl) (by kernel_rfl) (by kernel_rfl) (by kernel_rfl) (by kernel_rfl), by kernel_rfl, by kernel_rfl⟩
  | .next (_ + 1) _, _, h => by cases h
  | .out _ _, _, h => by cases h
theorem inOrder_L2_go (k : Nat) (c : List D)  {q : Nat} {ds : List D} {j : Nat} {es : List D} (h : runR (inOrder_L2_S k c) (.next q ds) = some (.out j es)) : Runs (ctx [102] inOrder_sp) Tabs inOrder_L2_A (stateOf (inOrder_L2_gs k c (.next q ds))) (stateOf (inOrder_L2_gs k c (.out j es))) (inOrder_L2_ax (.out j es)) ∧ (nxtOf (inOrder_L2_gs k c (.out j es)), lowGS (inOrder_L2_gs k c (.out j es))) = (inOrder_L2_A.nx, inOrder_L2_A.low) :=
  runs_of' (good true _ _) inOrder_L2_ok (ax := inOrder_L2_ax) (fun _ _ => rfl) (fun _ _ => axOf_end _) (inOrder_L2_S_ok k c) h
theorem inOrder_L2_in0 (k : Nat) (c : List D)  {es : List D} (h : runR (inOrder_L2_S k c) (.next 0 [.one (.int .i64 ((0 : Int)))]) = some (.out 0 es)) : LoopC (loopAt Try.prog 102 0) (inOrder_L2_E k c) 1 noFrame inOrder_x2_0 es :=
  have r := inOrder_L2_go k c h
  loopin_as rfl (loop_in (l := inOrder_L2_A) (E := (inOrder_L2_E k c)) (S := stateOf (inOrder_L2_gs k c (.next 0 [.one (.int .i64 ((0 : Int)))]))) (ns := nsOf (inOrder_L2_gs k c (.next 0 [.one (.int .i64 ((0 : Int)))]))) inOrder_L2_ok r.1 r.2 (by kernel_rfl) (by kernel_rfl) (by kernel_rfl) (by kernel_rfl))
theorem inOrder_L2_in1 (k : Nat) (c : List D)  {es : List D} (h : runR (inOrder_L2_S k c) (.next 0 [.one (.int .i64 ((0 : Int)))]) = some (.out 1 es)) : LoopC (loopAt Try.prog 102 0) (inOrder_L2_E k c) 1 noFrame inOrder_x2_1 es :=
  have r := inOrder_L2_go k c h
  loopin_as rfl (loop_in (l := inOrder_L2_A) (E := (inOrder_L2_E k c)) (S := stateOf (inOrder_L2_gs k c (.next 0 [.one (.int .i64 ((0 : Int)))]))) (ns := nsOf (inOrder_L2_gs k c (.next 0 [.one (.int .i64 ((0 : Int)))]))) inOrder_L2_ok r.1 r.2 (by kernel_rfl) (by kernel_rfl) (by kernel_rfl) (by kernel_rfl))
def inOrder_M (k : Nat) (c : List D) : Option D := bindL (runR (inOrder_L2_S k c) (.next 0 [.one (.int .i64 ((0 : Int)))])) fun j ds => (if j = 0 then pullD (some (.tup ds)) (fun _ => ()) (fun _ => .tup []) fun _ => (some (.one (.int .i64 (0 : Int)))) else if j = 1 then pullD (α := Int) (some (.tup ds)) (fun d => ((D.vi (D.at d 0)))) (fun l0 => .tup [.one (.int .i64 l0)]) fun l0 => (some (.one (.int .i64 l0))) else none)
theorem inOrder_M_ok (k : Nat) (c : List D) {r : D} (h : inOrder_M k c = some r) : Con 102 [.list k c] r := by
  unfold inOrder_M at h
  obtain ⟨j, ds, e1_, h2_⟩ := bindL_elim h
  by_cases j3_ : j = 0
  · have h6_ := (if_pos j3_).symm.trans h2_
    clear h2_
    subst j3_
    obtain ⟨⟨⟩, e4_, h7_⟩ := pullD_elim h6_
    clear h6_
    obtain rfl := tup_inj e4_
    have k5_ := inOrder_L2_in0 k c e1_
    obtain rfl := Option.some.inj h7_
    exact con_pc (op := true) (I := [102]) (sp := inOrder_sp) 3000 [] [.tup [.one (.int .i64 (Int.ofNat 0))]] [] [k_l k5_ [] [.tup [.one (.int .i64 (Int.ofNat 0))]] []] (by kernel_rfl)
  have h8_ := (if_neg j3_).symm.trans h2_
  clear h2_
  by_cases j9_ : j = 1
  · have h12_ := (if_pos j9_).symm.trans h8_
    clear h8_
    subst j9_
    obtain ⟨l0, e10_, h13_⟩ := pullD_elim h12_
    clear h12_
    obtain rfl := tup_inj e10_
    have k11_ := inOrder_L2_in1 k c e1_
    obtain rfl := Option.some.inj h13_
    exact con_pc (op := true) (I := [102]) (sp := inOrder_sp) 3000 [] [.tup [.one (.int .i64 (Int.ofNat 1)), .one (.int .i64 l0)]] [] [k_l k11_ [] [.tup [.one (.int .i64 (Int.ofNat 1)), .one (.int .i64 l0)]] []] (by kernel_rfl)
  have h14_ := (if_neg j9_).symm.trans h8_
  clear h8_
  cases h14_
def m_102 (ds : List D) : Option D := pullD (α := Nat × (List D)) (some (.tup ds)) (fun d => ((D.ln (D.at d 0)), (D.lc (D.at d 0)))) (fun (k, c) => .tup [.list k c]) fun (k, c) => inOrder_M k c
theorem m_102_ok {ds : List D} {r : D} (h : m_102 ds = some r) : Con 102 ds r := by
  unfold m_102 at h
  obtain ⟨⟨k, c⟩, e0, h0⟩ := pullD_elim h
  obtain rfl := tup_inj e0
  exact inOrder_M_ok k c h0
theorem m_102_eq (k : Nat) (c : List D) : m_102 [.list k c] = inOrder_M k c := pullD_some (k, c) rfl rfl
def peak_sp : List LSpec := []
def peak_M (a b c d n m : Int) : Option D := pullD (α := Int × Int) (m_119 [.one (.int .i64 (IntKind.i64.wrap (a * n))), .one (.int .i64 (IntKind.i64.wrap (d * m)))]) (fun d => ((D.vi (D.at d 0)), (D.vi (D.at d 1)))) (fun (r0, r1) => .agg [.one (.int .i64 r0), .one (.int .i64 r1)]) fun (r0, r1) => (pullD (α := Int × Int) (m_119 [.one (.int .i64 (IntKind.i64.wrap (b * n))), .one (.int .i64 (IntKind.i64.wrap (c * m)))]) (fun d => ((D.vi (D.at d 0)), (D.vi (D.at d 1)))) (fun (r2, r3) => .agg [.one (.int .i64 r2), .one (.int .i64 r3)]) fun (r2, r3) => (some ((shNF1_0 r0 r1 r2 r3))))
theorem peak_M_ok (a b c d n m : Int) {r : D} (h : peak_M a b c d n m = some r) : Con 99 [(shNF1_1 a b c d n m)] r := by
  unfold peak_M at h
  obtain ⟨⟨r0, r1⟩, f1_, h2_⟩ := pullD_elim h
  replace f1_ := m_119_ok f1_
  obtain ⟨⟨r2, r3⟩, f3_, h4_⟩ := pullD_elim h2_
  replace f3_ := m_119_ok f3_
  obtain rfl := Option.some.inj h4_
  exact con_pc (op := true) (I := [99]) (sp := peak_sp) 3000 [] [.agg [.one (.int .i64 r0), .one (.int .i64 r1)], .agg [.one (.int .i64 r2), .one (.int .i64 r3)]] [] [k_c f1_, k_c f3_] (by kernel_rfl)
def m_99 (ds : List D) : Option D := pullD (α := Int × Int × Int × Int × Int × Int) (some (.tup ds)) (fun d => ((D.vi (D.at (D.at d 0) 0)), (D.vi (D.at (D.at d 0) 1)), (D.vi (D.at (D.at d 0) 2)), (D.vi (D.at (D.at d 0) 3)), (D.vi (D.at (D.at d 0) 4)), (D.vi (D.at (D.at d 0) 5)))) (fun (a, b, c, d, n, m) => .tup [(shNF1_1 a b c d n m)]) fun (a, b, c, d, n, m) => peak_M a b c d n m
theorem m_99_ok {ds : List D} {r : D} (h : m_99 ds = some r) : Con 99 ds r := by
  unfold m_99 at h
  obtain ⟨⟨a, b, c, d, n, m⟩, e0, h0⟩ := pullD_elim h
  obtain rfl := tup_inj e0
  exact peak_M_ok a b c d n m h0
theorem m_99_eq (a b c d n m : Int) : m_99 [(shNF1_1 a b c d n m)] = peak_M a b c d n m := pullD_some (a, b, c, d, n, m) rfl rfl
def forces_sp : List LSpec := []
def forces_M (a b c d n m u : Int) : Option D := pullD (m_99 [(shNF1_1 a b c d n m)]) shNF1_0P (fun (r0, r1, r2, r3) => (shNF1_0 r0 r1 r2 r3)) fun (r0, r1, r2, r3) => (pullD (α := Int) (m_144 [.one (.int .i64 u), .agg [.one (.int .i64 r0), .one (.int .i64 r1)]]) (fun d => ((D.vi d))) (fun r4 => .one (.int .i64 r4)) fun r4 => (pullD (α := Int) (m_144 [.one (.int .i64 u), .agg [.one (.int .i64 r2), .one (.int .i64 r3)]]) (fun d => ((D.vi d))) (fun r5 => .one (.int .i64 r5)) fun r5 => (some (.agg [.one (.int .i64 r4), .one (.int .i64 r5)]))))
theorem forces_M_ok (a b c d n m u : Int) {r : D} (h : forces_M a b c d n m u = some r) : Con 118 [(shNF1_1 a b c d n m), .one (.int .i64 u)] r := by
  unfold forces_M at h
  obtain ⟨⟨r0, r1, r2, r3⟩, f1_, h2_⟩ := pullD_elim h
  replace f1_ := m_99_ok f1_
  obtain ⟨r4, f3_, h4_⟩ := pullD_elim h2_
  replace f3_ := m_144_ok f3_
  obtain ⟨r5, f5_, h6_⟩ := pullD_elim h4_
  replace f5_ := m_144_ok f5_
  obtain rfl := Option.some.inj h6_
  exact con_pc (op := true) (I := [118]) (sp := forces_sp) 3000 [] [(shNF1_0 r0 r1 r2 r3), .one (.int .i64 r4), .one (.int .i64 r5)] [] [k_c f1_, k_c f3_, k_c f5_] (by kernel_rfl)
def m_118 (ds : List D) : Option D := pullD (α := Int × Int × Int × Int × Int × Int × Int) (some (.tup ds)) (fun d => ((D.vi (D.at (D.at d 0) 0)), (D.vi (D.at (D.at d 0) 1)), (D.vi (D.at (D.at d 0) 2)), (D.vi (D.at (D.at d 0) 3)), (D.vi (D.at (D.at d 0) 4)), (D.vi (D.at (D.at d 0) 5)), (D.vi (D.at d 1)))) (fun (a, b, c, d, n, m, u) => .tup [(shNF1_1 a b c d n m), .one (.int .i64 u)]) fun (a, b, c, d, n, m, u) => forces_M a b c d n m u
theorem m_118_ok {ds : List D} {r : D} (h : m_118 ds = some r) : Con 118 ds r := by
  unfold m_118 at h
  obtain ⟨⟨a, b, c, d, n, m, u⟩, e0, h0⟩ := pullD_elim h
  obtain rfl := tup_inj e0
  exact forces_M_ok a b c d n m u h0
theorem m_118_eq (a b c d n m u : Int) : m_118 [(shNF1_1 a b c d n m), .one (.int .i64 u)] = forces_M a b c d n m u := pullD_some (a, b, c, d, n, m, u) rfl rfl
def chkUnit_sp : List LSpec := []
def chkUnit_M (u : Int) : Option D := (if u < (0 : Int) then some (.one (.int .i64 (2 : Int))) else (if u > (10000000 : Int) then some (.one (.int .i64 (2 : Int))) else some (.one (.int .i64 (0 : Int)))))
theorem chkUnit_M_ok (u : Int) {r : D} (h : chkUnit_M u = some r) : Con 100 [.one (.int .i64 u)] r := by
  unfold chkUnit_M at h
  by_cases b1_ : u < (0 : Int)
  · have h2_ := (if_pos b1_).symm.trans h
    obtain rfl := Option.some.inj h2_
    exact con_pc (op := true) (I := [100, 95, 132]) (sp := chkUnit_sp) 3000 (bT 6 []) [] [c_T, c_d b1_, c_d b1_, c_d b1_, c_d b1_, c_T] [] (by kernel_rfl)
  · have h2_ := (if_neg b1_).symm.trans h
    by_cases b3_ : u > (10000000 : Int)
    · have h4_ := (if_pos b3_).symm.trans h2_
      obtain rfl := Option.some.inj h4_
      exact con_pc (op := true) (I := [100, 95, 132]) (sp := chkUnit_sp) 3000 (bT 1 (bF 4 (bT 1 []))) [] [c_T, c_n b1_, c_n b1_, c_n b1_, c_n b1_, c_d b3_] [] (by kernel_rfl)
    · have h4_ := (if_neg b3_).symm.trans h2_
      obtain rfl := Option.some.inj h4_
      exact con_pc (op := true) (I := [100, 95, 132]) (sp := chkUnit_sp) 3000 (bT 1 (bF 6 [])) [] [c_T, c_n b1_, c_n b1_, c_n b1_, c_n b1_, c_n b3_, c_F] [] (by kernel_rfl)
def m_100 (ds : List D) : Option D := pullD (α := Int) (some (.tup ds)) (fun d => ((D.vi (D.at d 0)))) (fun u => .tup [.one (.int .i64 u)]) fun u => chkUnit_M u
theorem m_100_ok {ds : List D} {r : D} (h : m_100 ds = some r) : Con 100 ds r := by
  unfold m_100 at h
  obtain ⟨u, e0, h0⟩ := pullD_elim h
  obtain rfl := tup_inj e0
  exact chkUnit_M_ok u h0
theorem m_100_eq (u : Int) : m_100 [.one (.int .i64 u)] = chkUnit_M u := pullD_some u rfl rfl
def chkFactor_sp : List LSpec := []
def chkFactor_M (n d : Int) : Option D := (if d ≤ (0 : Int) then some (.one (.int .i64 (3 : Int))) else pullD (α := Int) (m_137 [.one (.int .i64 n), .one (.int .i64 d)]) (fun d => ((D.vi d))) (fun r0 => .one (.int .i64 r0)) fun r0 => ((if r0 ≠ (1 : Int) then some (.one (.int .i64 (3 : Int))) else (if n < (1 : Int) then some (.one (.int .i64 (2 : Int))) else (if n > (100 : Int) then some (.one (.int .i64 (2 : Int))) else (if d < (1 : Int) then some (.one (.int .i64 (2 : Int))) else (if d > (100 : Int) then some (.one (.int .i64 (2 : Int))) else some (.one (.int .i64 (0 : Int))))))))))
theorem chkFactor_M_ok (n d : Int) {r : D} (h : chkFactor_M n d = some r) : Con 103 [.agg [.one (.int .i64 n), .one (.int .i64 d)]] r := by
  unfold chkFactor_M at h
  by_cases b1_ : d ≤ (0 : Int)
  · have h2_ := (if_pos b1_).symm.trans h
    obtain rfl := Option.some.inj h2_
    exact con_pc (op := true) (I := [103, 95, 132]) (sp := chkFactor_sp) 3000 (bT 8 []) [] [c_d b1_, c_d b1_, c_d b1_, c_d b1_, c_d b1_, c_d b1_, c_d b1_, c_T] [] (by kernel_rfl)
  · have h2_ := (if_neg b1_).symm.trans h
    obtain ⟨r0, f3_, h4_⟩ := pullD_elim h2_
    replace f3_ := m_137_ok f3_
    by_cases b5_ : r0 ≠ (1 : Int)
    · have h6_ := (if_pos b5_).symm.trans h4_
      obtain rfl := Option.some.inj h6_
      exact con_pc (op := true) (I := [103, 95, 132]) (sp := chkFactor_sp) 3000 (bF 7 (bT 1 [])) [.one (.int .i64 r0)] [c_n b1_, c_n b1_, c_n b1_, c_n b1_, c_n b1_, c_n b1_, c_n b1_, c_b b5_] [k_c f3_] (by kernel_rfl)
    · have h6_ := (if_neg b5_).symm.trans h4_
      have b7_ : r0 = (1 : Int) := by first | exact b5_ | simpa using b5_
      by_cases b8_ : n < (1 : Int)
      · have h9_ := (if_pos b8_).symm.trans h6_
        obtain rfl := Option.some.inj h9_
        exact con_pc (op := true) (I := [103, 95, 132]) (sp := chkFactor_sp) 3000 (bF 8 (bT 6 [])) [.one (.int .i64 r0)] [c_n b1_, c_n b1_, c_n b1_, c_n b1_, c_n b1_, c_n b1_, c_n b1_, c_bn b7_, c_T, c_d b8_, c_d b8_, c_d b8_, c_d b8_, c_T] [k_c f3_] (by kernel_rfl)
      · have h9_ := (if_neg b8_).symm.trans h6_
        by_cases b10_ : n > (100 : Int)
        · have h11_ := (if_pos b10_).symm.trans h9_
          obtain rfl := Option.some.inj h11_
          exact con_pc (op := true) (I := [103, 95, 132]) (sp := chkFactor_sp) 3000 (bF 8 (bT 1 (bF 4 (bT 1 [])))) [.one (.int .i64 r0)] [c_n b1_, c_n b1_, c_n b1_, c_n b1_, c_n b1_, c_n b1_, c_n b1_, c_bn b7_, c_T, c_n b8_, c_n b8_, c_n b8_, c_n b8_, c_d b10_] [k_c f3_] (by kernel_rfl)
        · have h11_ := (if_neg b10_).symm.trans h9_
          by_cases b12_ : d < (1 : Int)
          · have h13_ := (if_pos b12_).symm.trans h11_
            obtain rfl := Option.some.inj h13_
            exact con_pc (op := true) (I := [103, 95, 132]) (sp := chkFactor_sp) 3000 (bF 8 (bT 1 (bF 5 (bT 6 [])))) [.one (.int .i64 r0)] [c_n b1_, c_n b1_, c_n b1_, c_n b1_, c_n b1_, c_n b1_, c_n b1_, c_bn b7_, c_T, c_n b8_, c_n b8_, c_n b8_, c_n b8_, c_n b10_, c_T, c_d b12_, c_d b12_, c_d b12_, c_d b12_, c_T] [k_c f3_] (by kernel_rfl)
          · have h13_ := (if_neg b12_).symm.trans h11_
            by_cases b14_ : d > (100 : Int)
            · have h15_ := (if_pos b14_).symm.trans h13_
              obtain rfl := Option.some.inj h15_
              exact con_pc (op := true) (I := [103, 95, 132]) (sp := chkFactor_sp) 3000 (bF 8 (bT 1 (bF 5 (bT 1 (bF 4 (bT 1 [])))))) [.one (.int .i64 r0)] [c_n b1_, c_n b1_, c_n b1_, c_n b1_, c_n b1_, c_n b1_, c_n b1_, c_bn b7_, c_T, c_n b8_, c_n b8_, c_n b8_, c_n b8_, c_n b10_, c_T, c_n b12_, c_n b12_, c_n b12_, c_n b12_, c_d b14_] [k_c f3_] (by kernel_rfl)
            · have h15_ := (if_neg b14_).symm.trans h13_
              obtain rfl := Option.some.inj h15_
              exact con_pc (op := true) (I := [103, 95, 132]) (sp := chkFactor_sp) 3000 (bF 8 (bT 1 (bF 5 (bT 1 (bF 6 []))))) [.one (.int .i64 r0)] [c_n b1_, c_n b1_, c_n b1_, c_n b1_, c_n b1_, c_n b1_, c_n b1_, c_bn b7_, c_T, c_n b8_, c_n b8_, c_n b8_, c_n b8_, c_n b10_, c_T, c_n b12_, c_n b12_, c_n b12_, c_n b12_, c_n b14_, c_F] [k_c f3_] (by kernel_rfl)
def m_103 (ds : List D) : Option D := pullD (α := Int × Int) (some (.tup ds)) (fun d => ((D.vi (D.at (D.at d 0) 0)), (D.vi (D.at (D.at d 0) 1)))) (fun (n, d) => .tup [.agg [.one (.int .i64 n), .one (.int .i64 d)]]) fun (n, d) => chkFactor_M n d
theorem m_103_ok {ds : List D} {r : D} (h : m_103 ds = some r) : Con 103 ds r := by
  unfold m_103 at h
  obtain ⟨⟨n, d⟩, e0, h0⟩ := pullD_elim h
  obtain rfl := tup_inj e0
  exact chkFactor_M_ok n d h0
theorem m_103_eq (n d : Int) : m_103 [.agg [.one (.int .i64 n), .one (.int .i64 d)]] = chkFactor_M n d := pullD_some (n, d) rfl rfl
def chkFault_sp : List LSpec := []
def chkFault_M (a b c d n m : Int) : Option D := (if a < (0 : Int) then (if c < (1 : Int) then pullD (α := Int) (m_102 [.list 2 [.one (.int .i64 a), .one (.int .i64 b), .one (.int .i64 c), .one (.int .i64 d)]]) (fun d => ((D.vi d))) (fun r0 => .one (.int .i64 r0)) fun r0 => (pullD (α := Int) (m_103 [.agg [.one (.int .i64 n), .one (.int .i64 m)]]) (fun d => ((D.vi d))) (fun r1 => .one (.int .i64 r1)) fun r1 => (pullD (α := Int) (m_83 [.list 4 [.one (.int .i64 (2 : Int)), .one (.int .i64 (2 : Int)), .one (.int .i64 r0), .one (.int .i64 r1)]]) (fun d => ((D.vi d))) (fun r2 => .one (.int .i64 r2)) fun r2 => (some (.one (.int .i64 r2))))) else (if c > (1000 : Int) then pullD (α := Int) (m_102 [.list 2 [.one (.int .i64 a), .one (.int .i64 b), .one (.int .i64 c), .one (.int .i64 d)]]) (fun d => ((D.vi d))) (fun r3 => .one (.int .i64 r3)) fun r3 => (pullD (α := Int) (m_103 [.agg [.one (.int .i64 n), .one (.int .i64 m)]]) (fun d => ((D.vi d))) (fun r4 => .one (.int .i64 r4)) fun r4 => (pullD (α := Int) (m_83 [.list 4 [.one (.int .i64 (2 : Int)), .one (.int .i64 (2 : Int)), .one (.int .i64 r3), .one (.int .i64 r4)]]) (fun d => ((D.vi d))) (fun r5 => .one (.int .i64 r5)) fun r5 => (some (.one (.int .i64 r5))))) else (if d < (1 : Int) then pullD (α := Int) (m_102 [.list 2 [.one (.int .i64 a), .one (.int .i64 b), .one (.int .i64 c), .one (.int .i64 d)]]) (fun d => ((D.vi d))) (fun r6 => .one (.int .i64 r6)) fun r6 => (pullD (α := Int) (m_103 [.agg [.one (.int .i64 n), .one (.int .i64 m)]]) (fun d => ((D.vi d))) (fun r7 => .one (.int .i64 r7)) fun r7 => (pullD (α := Int) (m_83 [.list 4 [.one (.int .i64 (2 : Int)), .one (.int .i64 (2 : Int)), .one (.int .i64 r6), .one (.int .i64 r7)]]) (fun d => ((D.vi d))) (fun r8 => .one (.int .i64 r8)) fun r8 => (some (.one (.int .i64 r8))))) else (if d > (1000 : Int) then pullD (α := Int) (m_102 [.list 2 [.one (.int .i64 a), .one (.int .i64 b), .one (.int .i64 c), .one (.int .i64 d)]]) (fun d => ((D.vi d))) (fun r9 => .one (.int .i64 r9)) fun r9 => (pullD (α := Int) (m_103 [.agg [.one (.int .i64 n), .one (.int .i64 m)]]) (fun d => ((D.vi d))) (fun r10 => .one (.int .i64 r10)) fun r10 => (pullD (α := Int) (m_83 [.list 4 [.one (.int .i64 (2 : Int)), .one (.int .i64 (2 : Int)), .one (.int .i64 r9), .one (.int .i64 r10)]]) (fun d => ((D.vi d))) (fun r11 => .one (.int .i64 r11)) fun r11 => (some (.one (.int .i64 r11))))) else pullD (α := Int) (m_102 [.list 2 [.one (.int .i64 a), .one (.int .i64 b), .one (.int .i64 c), .one (.int .i64 d)]]) (fun d => ((D.vi d))) (fun r12 => .one (.int .i64 r12)) fun r12 => (pullD (α := Int) (m_103 [.agg [.one (.int .i64 n), .one (.int .i64 m)]]) (fun d => ((D.vi d))) (fun r13 => .one (.int .i64 r13)) fun r13 => (pullD (α := Int) (m_83 [.list 4 [.one (.int .i64 (2 : Int)), .one (.int .i64 (0 : Int)), .one (.int .i64 r12), .one (.int .i64 r13)]]) (fun d => ((D.vi d))) (fun r14 => .one (.int .i64 r14)) fun r14 => (some (.one (.int .i64 r14))))))))) else (if a > (1000 : Int) then (if c < (1 : Int) then pullD (α := Int) (m_102 [.list 2 [.one (.int .i64 a), .one (.int .i64 b), .one (.int .i64 c), .one (.int .i64 d)]]) (fun d => ((D.vi d))) (fun r15 => .one (.int .i64 r15)) fun r15 => (pullD (α := Int) (m_103 [.agg [.one (.int .i64 n), .one (.int .i64 m)]]) (fun d => ((D.vi d))) (fun r16 => .one (.int .i64 r16)) fun r16 => (pullD (α := Int) (m_83 [.list 4 [.one (.int .i64 (2 : Int)), .one (.int .i64 (2 : Int)), .one (.int .i64 r15), .one (.int .i64 r16)]]) (fun d => ((D.vi d))) (fun r17 => .one (.int .i64 r17)) fun r17 => (some (.one (.int .i64 r17))))) else (if c > (1000 : Int) then pullD (α := Int) (m_102 [.list 2 [.one (.int .i64 a), .one (.int .i64 b), .one (.int .i64 c), .one (.int .i64 d)]]) (fun d => ((D.vi d))) (fun r18 => .one (.int .i64 r18)) fun r18 => (pullD (α := Int) (m_103 [.agg [.one (.int .i64 n), .one (.int .i64 m)]]) (fun d => ((D.vi d))) (fun r19 => .one (.int .i64 r19)) fun r19 => (pullD (α := Int) (m_83 [.list 4 [.one (.int .i64 (2 : Int)), .one (.int .i64 (2 : Int)), .one (.int .i64 r18), .one (.int .i64 r19)]]) (fun d => ((D.vi d))) (fun r20 => .one (.int .i64 r20)) fun r20 => (some (.one (.int .i64 r20))))) else (if d < (1 : Int) then pullD (α := Int) (m_102 [.list 2 [.one (.int .i64 a), .one (.int .i64 b), .one (.int .i64 c), .one (.int .i64 d)]]) (fun d => ((D.vi d))) (fun r21 => .one (.int .i64 r21)) fun r21 => (pullD (α := Int) (m_103 [.agg [.one (.int .i64 n), .one (.int .i64 m)]]) (fun d => ((D.vi d))) (fun r22 => .one (.int .i64 r22)) fun r22 => (pullD (α := Int) (m_83 [.list 4 [.one (.int .i64 (2 : Int)), .one (.int .i64 (2 : Int)), .one (.int .i64 r21), .one (.int .i64 r22)]]) (fun d => ((D.vi d))) (fun r23 => .one (.int .i64 r23)) fun r23 => (some (.one (.int .i64 r23))))) else (if d > (1000 : Int) then pullD (α := Int) (m_102 [.list 2 [.one (.int .i64 a), .one (.int .i64 b), .one (.int .i64 c), .one (.int .i64 d)]]) (fun d => ((D.vi d))) (fun r24 => .one (.int .i64 r24)) fun r24 => (pullD (α := Int) (m_103 [.agg [.one (.int .i64 n), .one (.int .i64 m)]]) (fun d => ((D.vi d))) (fun r25 => .one (.int .i64 r25)) fun r25 => (pullD (α := Int) (m_83 [.list 4 [.one (.int .i64 (2 : Int)), .one (.int .i64 (2 : Int)), .one (.int .i64 r24), .one (.int .i64 r25)]]) (fun d => ((D.vi d))) (fun r26 => .one (.int .i64 r26)) fun r26 => (some (.one (.int .i64 r26))))) else pullD (α := Int) (m_102 [.list 2 [.one (.int .i64 a), .one (.int .i64 b), .one (.int .i64 c), .one (.int .i64 d)]]) (fun d => ((D.vi d))) (fun r27 => .one (.int .i64 r27)) fun r27 => (pullD (α := Int) (m_103 [.agg [.one (.int .i64 n), .one (.int .i64 m)]]) (fun d => ((D.vi d))) (fun r28 => .one (.int .i64 r28)) fun r28 => (pullD (α := Int) (m_83 [.list 4 [.one (.int .i64 (2 : Int)), .one (.int .i64 (0 : Int)), .one (.int .i64 r27), .one (.int .i64 r28)]]) (fun d => ((D.vi d))) (fun r29 => .one (.int .i64 r29)) fun r29 => (some (.one (.int .i64 r29))))))))) else (if b < (0 : Int) then (if c < (1 : Int) then pullD (α := Int) (m_102 [.list 2 [.one (.int .i64 a), .one (.int .i64 b), .one (.int .i64 c), .one (.int .i64 d)]]) (fun d => ((D.vi d))) (fun r30 => .one (.int .i64 r30)) fun r30 => (pullD (α := Int) (m_103 [.agg [.one (.int .i64 n), .one (.int .i64 m)]]) (fun d => ((D.vi d))) (fun r31 => .one (.int .i64 r31)) fun r31 => (pullD (α := Int) (m_83 [.list 4 [.one (.int .i64 (2 : Int)), .one (.int .i64 (2 : Int)), .one (.int .i64 r30), .one (.int .i64 r31)]]) (fun d => ((D.vi d))) (fun r32 => .one (.int .i64 r32)) fun r32 => (some (.one (.int .i64 r32))))) else (if c > (1000 : Int) then pullD (α := Int) (m_102 [.list 2 [.one (.int .i64 a), .one (.int .i64 b), .one (.int .i64 c), .one (.int .i64 d)]]) (fun d => ((D.vi d))) (fun r33 => .one (.int .i64 r33)) fun r33 => (pullD (α := Int) (m_103 [.agg [.one (.int .i64 n), .one (.int .i64 m)]]) (fun d => ((D.vi d))) (fun r34 => .one (.int .i64 r34)) fun r34 => (pullD (α := Int) (m_83 [.list 4 [.one (.int .i64 (2 : Int)), .one (.int .i64 (2 : Int)), .one (.int .i64 r33), .one (.int .i64 r34)]]) (fun d => ((D.vi d))) (fun r35 => .one (.int .i64 r35)) fun r35 => (some (.one (.int .i64 r35))))) else (if d < (1 : Int) then pullD (α := Int) (m_102 [.list 2 [.one (.int .i64 a), .one (.int .i64 b), .one (.int .i64 c), .one (.int .i64 d)]]) (fun d => ((D.vi d))) (fun r36 => .one (.int .i64 r36)) fun r36 => (pullD (α := Int) (m_103 [.agg [.one (.int .i64 n), .one (.int .i64 m)]]) (fun d => ((D.vi d))) (fun r37 => .one (.int .i64 r37)) fun r37 => (pullD (α := Int) (m_83 [.list 4 [.one (.int .i64 (2 : Int)), .one (.int .i64 (2 : Int)), .one (.int .i64 r36), .one (.int .i64 r37)]]) (fun d => ((D.vi d))) (fun r38 => .one (.int .i64 r38)) fun r38 => (some (.one (.int .i64 r38))))) else (if d > (1000 : Int) then pullD (α := Int) (m_102 [.list 2 [.one (.int .i64 a), .one (.int .i64 b), .one (.int .i64 c), .one (.int .i64 d)]]) (fun d => ((D.vi d))) (fun r39 => .one (.int .i64 r39)) fun r39 => (pullD (α := Int) (m_103 [.agg [.one (.int .i64 n), .one (.int .i64 m)]]) (fun d => ((D.vi d))) (fun r40 => .one (.int .i64 r40)) fun r40 => (pullD (α := Int) (m_83 [.list 4 [.one (.int .i64 (2 : Int)), .one (.int .i64 (2 : Int)), .one (.int .i64 r39), .one (.int .i64 r40)]]) (fun d => ((D.vi d))) (fun r41 => .one (.int .i64 r41)) fun r41 => (some (.one (.int .i64 r41))))) else pullD (α := Int) (m_102 [.list 2 [.one (.int .i64 a), .one (.int .i64 b), .one (.int .i64 c), .one (.int .i64 d)]]) (fun d => ((D.vi d))) (fun r42 => .one (.int .i64 r42)) fun r42 => (pullD (α := Int) (m_103 [.agg [.one (.int .i64 n), .one (.int .i64 m)]]) (fun d => ((D.vi d))) (fun r43 => .one (.int .i64 r43)) fun r43 => (pullD (α := Int) (m_83 [.list 4 [.one (.int .i64 (2 : Int)), .one (.int .i64 (0 : Int)), .one (.int .i64 r42), .one (.int .i64 r43)]]) (fun d => ((D.vi d))) (fun r44 => .one (.int .i64 r44)) fun r44 => (some (.one (.int .i64 r44))))))))) else (if b > (1000 : Int) then (if c < (1 : Int) then pullD (α := Int) (m_102 [.list 2 [.one (.int .i64 a), .one (.int .i64 b), .one (.int .i64 c), .one (.int .i64 d)]]) (fun d => ((D.vi d))) (fun r45 => .one (.int .i64 r45)) fun r45 => (pullD (α := Int) (m_103 [.agg [.one (.int .i64 n), .one (.int .i64 m)]]) (fun d => ((D.vi d))) (fun r46 => .one (.int .i64 r46)) fun r46 => (pullD (α := Int) (m_83 [.list 4 [.one (.int .i64 (2 : Int)), .one (.int .i64 (2 : Int)), .one (.int .i64 r45), .one (.int .i64 r46)]]) (fun d => ((D.vi d))) (fun r47 => .one (.int .i64 r47)) fun r47 => (some (.one (.int .i64 r47))))) else (if c > (1000 : Int) then pullD (α := Int) (m_102 [.list 2 [.one (.int .i64 a), .one (.int .i64 b), .one (.int .i64 c), .one (.int .i64 d)]]) (fun d => ((D.vi d))) (fun r48 => .one (.int .i64 r48)) fun r48 => (pullD (α := Int) (m_103 [.agg [.one (.int .i64 n), .one (.int .i64 m)]]) (fun d => ((D.vi d))) (fun r49 => .one (.int .i64 r49)) fun r49 => (pullD (α := Int) (m_83 [.list 4 [.one (.int .i64 (2 : Int)), .one (.int .i64 (2 : Int)), .one (.int .i64 r48), .one (.int .i64 r49)]]) (fun d => ((D.vi d))) (fun r50 => .one (.int .i64 r50)) fun r50 => (some (.one (.int .i64 r50))))) else (if d < (1 : Int) then pullD (α := Int) (m_102 [.list 2 [.one (.int .i64 a), .one (.int .i64 b), .one (.int .i64 c), .one (.int .i64 d)]]) (fun d => ((D.vi d))) (fun r51 => .one (.int .i64 r51)) fun r51 => (pullD (α := Int) (m_103 [.agg [.one (.int .i64 n), .one (.int .i64 m)]]) (fun d => ((D.vi d))) (fun r52 => .one (.int .i64 r52)) fun r52 => (pullD (α := Int) (m_83 [.list 4 [.one (.int .i64 (2 : Int)), .one (.int .i64 (2 : Int)), .one (.int .i64 r51), .one (.int .i64 r52)]]) (fun d => ((D.vi d))) (fun r53 => .one (.int .i64 r53)) fun r53 => (some (.one (.int .i64 r53))))) else (if d > (1000 : Int) then pullD (α := Int) (m_102 [.list 2 [.one (.int .i64 a), .one (.int .i64 b), .one (.int .i64 c), .one (.int .i64 d)]]) (fun d => ((D.vi d))) (fun r54 => .one (.int .i64 r54)) fun r54 => (pullD (α := Int) (m_103 [.agg [.one (.int .i64 n), .one (.int .i64 m)]]) (fun d => ((D.vi d))) (fun r55 => .one (.int .i64 r55)) fun r55 => (pullD (α := Int) (m_83 [.list 4 [.one (.int .i64 (2 : Int)), .one (.int .i64 (2 : Int)), .one (.int .i64 r54), .one (.int .i64 r55)]]) (fun d => ((D.vi d))) (fun r56 => .one (.int .i64 r56)) fun r56 => (some (.one (.int .i64 r56))))) else pullD (α := Int) (m_102 [.list 2 [.one (.int .i64 a), .one (.int .i64 b), .one (.int .i64 c), .one (.int .i64 d)]]) (fun d => ((D.vi d))) (fun r57 => .one (.int .i64 r57)) fun r57 => (pullD (α := Int) (m_103 [.agg [.one (.int .i64 n), .one (.int .i64 m)]]) (fun d => ((D.vi d))) (fun r58 => .one (.int .i64 r58)) fun r58 => (pullD (α := Int) (m_83 [.list 4 [.one (.int .i64 (2 : Int)), .one (.int .i64 (0 : Int)), .one (.int .i64 r57), .one (.int .i64 r58)]]) (fun d => ((D.vi d))) (fun r59 => .one (.int .i64 r59)) fun r59 => (some (.one (.int .i64 r59))))))))) else (if c < (1 : Int) then pullD (α := Int) (m_102 [.list 2 [.one (.int .i64 a), .one (.int .i64 b), .one (.int .i64 c), .one (.int .i64 d)]]) (fun d => ((D.vi d))) (fun r60 => .one (.int .i64 r60)) fun r60 => (pullD (α := Int) (m_103 [.agg [.one (.int .i64 n), .one (.int .i64 m)]]) (fun d => ((D.vi d))) (fun r61 => .one (.int .i64 r61)) fun r61 => (pullD (α := Int) (m_83 [.list 4 [.one (.int .i64 (0 : Int)), .one (.int .i64 (2 : Int)), .one (.int .i64 r60), .one (.int .i64 r61)]]) (fun d => ((D.vi d))) (fun r62 => .one (.int .i64 r62)) fun r62 => (some (.one (.int .i64 r62))))) else (if c > (1000 : Int) then pullD (α := Int) (m_102 [.list 2 [.one (.int .i64 a), .one (.int .i64 b), .one (.int .i64 c), .one (.int .i64 d)]]) (fun d => ((D.vi d))) (fun r63 => .one (.int .i64 r63)) fun r63 => (pullD (α := Int) (m_103 [.agg [.one (.int .i64 n), .one (.int .i64 m)]]) (fun d => ((D.vi d))) (fun r64 => .one (.int .i64 r64)) fun r64 => (pullD (α := Int) (m_83 [.list 4 [.one (.int .i64 (0 : Int)), .one (.int .i64 (2 : Int)), .one (.int .i64 r63), .one (.int .i64 r64)]]) (fun d => ((D.vi d))) (fun r65 => .one (.int .i64 r65)) fun r65 => (some (.one (.int .i64 r65))))) else (if d < (1 : Int) then pullD (α := Int) (m_102 [.list 2 [.one (.int .i64 a), .one (.int .i64 b), .one (.int .i64 c), .one (.int .i64 d)]]) (fun d => ((D.vi d))) (fun r66 => .one (.int .i64 r66)) fun r66 => (pullD (α := Int) (m_103 [.agg [.one (.int .i64 n), .one (.int .i64 m)]]) (fun d => ((D.vi d))) (fun r67 => .one (.int .i64 r67)) fun r67 => (pullD (α := Int) (m_83 [.list 4 [.one (.int .i64 (0 : Int)), .one (.int .i64 (2 : Int)), .one (.int .i64 r66), .one (.int .i64 r67)]]) (fun d => ((D.vi d))) (fun r68 => .one (.int .i64 r68)) fun r68 => (some (.one (.int .i64 r68))))) else (if d > (1000 : Int) then pullD (α := Int) (m_102 [.list 2 [.one (.int .i64 a), .one (.int .i64 b), .one (.int .i64 c), .one (.int .i64 d)]]) (fun d => ((D.vi d))) (fun r69 => .one (.int .i64 r69)) fun r69 => (pullD (α := Int) (m_103 [.agg [.one (.int .i64 n), .one (.int .i64 m)]]) (fun d => ((D.vi d))) (fun r70 => .one (.int .i64 r70)) fun r70 => (pullD (α := Int) (m_83 [.list 4 [.one (.int .i64 (0 : Int)), .one (.int .i64 (2 : Int)), .one (.int .i64 r69), .one (.int .i64 r70)]]) (fun d => ((D.vi d))) (fun r71 => .one (.int .i64 r71)) fun r71 => (some (.one (.int .i64 r71))))) else pullD (α := Int) (m_102 [.list 2 [.one (.int .i64 a), .one (.int .i64 b), .one (.int .i64 c), .one (.int .i64 d)]]) (fun d => ((D.vi d))) (fun r72 => .one (.int .i64 r72)) fun r72 => (pullD (α := Int) (m_103 [.agg [.one (.int .i64 n), .one (.int .i64 m)]]) (fun d => ((D.vi d))) (fun r73 => .one (.int .i64 r73)) fun r73 => (pullD (α := Int) (m_83 [.list 4 [.one (.int .i64 (0 : Int)), .one (.int .i64 (0 : Int)), .one (.int .i64 r72), .one (.int .i64 r73)]]) (fun d => ((D.vi d))) (fun r74 => .one (.int .i64 r74)) fun r74 => (some (.one (.int .i64 r74)))))))))))))
theorem chkFault_M_ok (a b c d n m : Int) {r : D} (h : chkFault_M a b c d n m = some r) : Con 43 [(shNF1_1 a b c d n m)] r := by
  unfold chkFault_M at h
  by_cases b1_ : a < (0 : Int)
  · have h2_ := (if_pos b1_).symm.trans h
    by_cases b3_ : c < (1 : Int)
    · have h4_ := (if_pos b3_).symm.trans h2_
      obtain ⟨r0, f5_, h6_⟩ := pullD_elim h4_
      replace f5_ := m_102_ok f5_
      obtain ⟨r1, f7_, h8_⟩ := pullD_elim h6_
      replace f7_ := m_103_ok f7_
      obtain ⟨r2, f9_, h10_⟩ := pullD_elim h8_
      replace f9_ := m_83_ok f9_
      obtain rfl := Option.some.inj h10_
      exact con_pc (op := true) (I := [43, 95, 132]) (sp := chkFault_sp) 3000 (bT 12 []) [.one (.int .i64 r0), .one (.int .i64 r1), .one (.int .i64 r2)] [c_T, c_d b1_, c_d b1_, c_d b1_, c_d b1_, c_T, c_T, c_d b3_, c_d b3_, c_d b3_, c_d b3_, c_T, ⟨fact (1 + 1 ≤ 1 + 1), true, fact_mk (by decide)⟩, ⟨fact (3 + 1 ≤ 3 + 1), true, fact_mk (by decide)⟩] [k_c f5_, k_c f7_, k_c f9_] (by kernel_rfl)
    · have h4_ := (if_neg b3_).symm.trans h2_
      by_cases b11_ : c > (1000 : Int)
      · have h12_ := (if_pos b11_).symm.trans h4_
        obtain ⟨r3, f13_, h14_⟩ := pullD_elim h12_
        replace f13_ := m_102_ok f13_
        obtain ⟨r4, f15_, h16_⟩ := pullD_elim h14_
        replace f15_ := m_103_ok f15_
        obtain ⟨r5, f17_, h18_⟩ := pullD_elim h16_
        replace f17_ := m_83_ok f17_
        obtain rfl := Option.some.inj h18_
        exact con_pc (op := true) (I := [43, 95, 132]) (sp := chkFault_sp) 3000 (bT 7 (bF 4 (bT 1 []))) [.one (.int .i64 r3), .one (.int .i64 r4), .one (.int .i64 r5)] [c_T, c_d b1_, c_d b1_, c_d b1_, c_d b1_, c_T, c_T, c_n b3_, c_n b3_, c_n b3_, c_n b3_, c_d b11_, ⟨fact (1 + 1 ≤ 1 + 1), true, fact_mk (by decide)⟩, ⟨fact (3 + 1 ≤ 3 + 1), true, fact_mk (by decide)⟩] [k_c f13_, k_c f15_, k_c f17_] (by kernel_rfl)
      · have h12_ := (if_neg b11_).symm.trans h4_
        by_cases b19_ : d < (1 : Int)
        · have h20_ := (if_pos b19_).symm.trans h12_
          obtain ⟨r6, f21_, h22_⟩ := pullD_elim h20_
          replace f21_ := m_102_ok f21_
          obtain ⟨r7, f23_, h24_⟩ := pullD_elim h22_
          replace f23_ := m_103_ok f23_
          obtain ⟨r8, f25_, h26_⟩ := pullD_elim h24_
          replace f25_ := m_83_ok f25_
          obtain rfl := Option.some.inj h26_
          exact con_pc (op := true) (I := [43, 95, 132]) (sp := chkFault_sp) 3000 (bT 7 (bF 5 (bT 6 []))) [.one (.int .i64 r6), .one (.int .i64 r7), .one (.int .i64 r8)] [c_T, c_d b1_, c_d b1_, c_d b1_, c_d b1_, c_T, c_T, c_n b3_, c_n b3_, c_n b3_, c_n b3_, c_n b11_, c_T, c_d b19_, c_d b19_, c_d b19_, c_d b19_, c_T, ⟨fact (1 + 1 ≤ 1 + 1), true, fact_mk (by decide)⟩, ⟨fact (3 + 1 ≤ 3 + 1), true, fact_mk (by decide)⟩] [k_c f21_, k_c f23_, k_c f25_] (by kernel_rfl)
        · have h20_ := (if_neg b19_).symm.trans h12_
          by_cases b27_ : d > (1000 : Int)
          · have h28_ := (if_pos b27_).symm.trans h20_
            obtain ⟨r9, f29_, h30_⟩ := pullD_elim h28_
            replace f29_ := m_102_ok f29_
            obtain ⟨r10, f31_, h32_⟩ := pullD_elim h30_
            replace f31_ := m_103_ok f31_
            obtain ⟨r11, f33_, h34_⟩ := pullD_elim h32_
            replace f33_ := m_83_ok f33_
            obtain rfl := Option.some.inj h34_
            exact con_pc (op := true) (I := [43, 95, 132]) (sp := chkFault_sp) 3000 (bT 7 (bF 5 (bT 1 (bF 4 (bT 1 []))))) [.one (.int .i64 r9), .one (.int .i64 r10), .one (.int .i64 r11)] [c_T, c_d b1_, c_d b1_, c_d b1_, c_d b1_, c_T, c_T, c_n b3_, c_n b3_, c_n b3_, c_n b3_, c_n b11_, c_T, c_n b19_, c_n b19_, c_n b19_, c_n b19_, c_d b27_, ⟨fact (1 + 1 ≤ 1 + 1), true, fact_mk (by decide)⟩, ⟨fact (3 + 1 ≤ 3 + 1), true, fact_mk (by decide)⟩] [k_c f29_, k_c f31_, k_c f33_] (by kernel_rfl)
          · have h28_ := (if_neg b27_).symm.trans h20_
            obtain ⟨r12, f35_, h36_⟩ := pullD_elim h28_
            replace f35_ := m_102_ok f35_
            obtain ⟨r13, f37_, h38_⟩ := pullD_elim h36_
            replace f37_ := m_103_ok f37_
            obtain ⟨r14, f39_, h40_⟩ := pullD_elim h38_
            replace f39_ := m_83_ok f39_
            obtain rfl := Option.some.inj h40_
            exact con_pc (op := true) (I := [43, 95, 132]) (sp := chkFault_sp) 3000 (bT 7 (bF 5 (bT 1 (bF 6 [])))) [.one (.int .i64 r12), .one (.int .i64 r13), .one (.int .i64 r14)] [c_T, c_d b1_, c_d b1_, c_d b1_, c_d b1_, c_T, c_T, c_n b3_, c_n b3_, c_n b3_, c_n b3_, c_n b11_, c_T, c_n b19_, c_n b19_, c_n b19_, c_n b19_, c_n b27_, c_F, ⟨fact (1 + 1 ≤ 1 + 1), true, fact_mk (by decide)⟩, ⟨fact (3 + 1 ≤ 3 + 1), true, fact_mk (by decide)⟩] [k_c f35_, k_c f37_, k_c f39_] (by kernel_rfl)
  · have h2_ := (if_neg b1_).symm.trans h
    by_cases b41_ : a > (1000 : Int)
    · have h42_ := (if_pos b41_).symm.trans h2_
      by_cases b43_ : c < (1 : Int)
      · have h44_ := (if_pos b43_).symm.trans h42_
        obtain ⟨r15, f45_, h46_⟩ := pullD_elim h44_
        replace f45_ := m_102_ok f45_
        obtain ⟨r16, f47_, h48_⟩ := pullD_elim h46_
        replace f47_ := m_103_ok f47_
        obtain ⟨r17, f49_, h50_⟩ := pullD_elim h48_
        replace f49_ := m_83_ok f49_
        obtain rfl := Option.some.inj h50_
        exact con_pc (op := true) (I := [43, 95, 132]) (sp := chkFault_sp) 3000 (bT 1 (bF 4 (bT 7 []))) [.one (.int .i64 r15), .one (.int .i64 r16), .one (.int .i64 r17)] [c_T, c_n b1_, c_n b1_, c_n b1_, c_n b1_, c_d b41_, c_T, c_d b43_, c_d b43_, c_d b43_, c_d b43_, c_T, ⟨fact (1 + 1 ≤ 1 + 1), true, fact_mk (by decide)⟩, ⟨fact (3 + 1 ≤ 3 + 1), true, fact_mk (by decide)⟩] [k_c f45_, k_c f47_, k_c f49_] (by kernel_rfl)
      · have h44_ := (if_neg b43_).symm.trans h42_
        by_cases b51_ : c > (1000 : Int)
        · have h52_ := (if_pos b51_).symm.trans h44_
          obtain ⟨r18, f53_, h54_⟩ := pullD_elim h52_
          replace f53_ := m_102_ok f53_
          obtain ⟨r19, f55_, h56_⟩ := pullD_elim h54_
          replace f55_ := m_103_ok f55_
          obtain ⟨r20, f57_, h58_⟩ := pullD_elim h56_
          replace f57_ := m_83_ok f57_
          obtain rfl := Option.some.inj h58_
          exact con_pc (op := true) (I := [43, 95, 132]) (sp := chkFault_sp) 3000 (bT 1 (bF 4 (bT 2 (bF 4 (bT 1 []))))) [.one (.int .i64 r18), .one (.int .i64 r19), .one (.int .i64 r20)] [c_T, c_n b1_, c_n b1_, c_n b1_, c_n b1_, c_d b41_, c_T, c_n b43_, c_n b43_, c_n b43_, c_n b43_, c_d b51_, ⟨fact (1 + 1 ≤ 1 + 1), true, fact_mk (by decide)⟩, ⟨fact (3 + 1 ≤ 3 + 1), true, fact_mk (by decide)⟩] [k_c f53_, k_c f55_, k_c f57_] (by kernel_rfl)
        · have h52_ := (if_neg b51_).symm.trans h44_
          by_cases b59_ : d < (1 : Int)
          · have h60_ := (if_pos b59_).symm.trans h52_
            obtain ⟨r21, f61_, h62_⟩ := pullD_elim h60_
            replace f61_ := m_102_ok f61_
            obtain ⟨r22, f63_, h64_⟩ := pullD_elim h62_
            replace f63_ := m_103_ok f63_
            obtain ⟨r23, f65_, h66_⟩ := pullD_elim h64_
            replace f65_ := m_83_ok f65_
            obtain rfl := Option.some.inj h66_
            exact con_pc (op := true) (I := [43, 95, 132]) (sp := chkFault_sp) 3000 (bT 1 (bF 4 (bT 2 (bF 5 (bT 6 []))))) [.one (.int .i64 r21), .one (.int .i64 r22), .one (.int .i64 r23)] [c_T, c_n b1_, c_n b1_, c_n b1_, c_n b1_, c_d b41_, c_T, c_n b43_, c_n b43_, c_n b43_, c_n b43_, c_n b51_, c_T, c_d b59_, c_d b59_, c_d b59_, c_d b59_, c_T, ⟨fact (1 + 1 ≤ 1 + 1), true, fact_mk (by decide)⟩, ⟨fact (3 + 1 ≤ 3 + 1), true, fact_mk (by decide)⟩] [k_c f61_, k_c f63_, k_c f65_] (by kernel_rfl)
          · have h60_ := (if_neg b59_).symm.trans h52_
            by_cases b67_ : d > (1000 : Int)
            · have h68_ := (if_pos b67_).symm.trans h60_
              obtain ⟨r24, f69_, h70_⟩ := pullD_elim h68_
              replace f69_ := m_102_ok f69_
              obtain ⟨r25, f71_, h72_⟩ := pullD_elim h70_
              replace f71_ := m_103_ok f71_
              obtain ⟨r26, f73_, h74_⟩ := pullD_elim h72_
              replace f73_ := m_83_ok f73_
              obtain rfl := Option.some.inj h74_
              exact con_pc (op := true) (I := [43, 95, 132]) (sp := chkFault_sp) 3000 (bT 1 (bF 4 (bT 2 (bF 5 (bT 1 (bF 4 (bT 1 []))))))) [.one (.int .i64 r24), .one (.int .i64 r25), .one (.int .i64 r26)] [c_T, c_n b1_, c_n b1_, c_n b1_, c_n b1_, c_d b41_, c_T, c_n b43_, c_n b43_, c_n b43_, c_n b43_, c_n b51_, c_T, c_n b59_, c_n b59_, c_n b59_, c_n b59_, c_d b67_, ⟨fact (1 + 1 ≤ 1 + 1), true, fact_mk (by decide)⟩, ⟨fact (3 + 1 ≤ 3 + 1), true, fact_mk (by decide)⟩] [k_c f69_, k_c f71_, k_c f73_] (by kernel_rfl)
            · have h68_ := (if_neg b67_).symm.trans h60_
              obtain ⟨r27, f75_, h76_⟩ := pullD_elim h68_
              replace f75_ := m_102_ok f75_
              obtain ⟨r28, f77_, h78_⟩ := pullD_elim h76_
              replace f77_ := m_103_ok f77_
              obtain ⟨r29, f79_, h80_⟩ := pullD_elim h78_
              replace f79_ := m_83_ok f79_
              obtain rfl := Option.some.inj h80_
              exact con_pc (op := true) (I := [43, 95, 132]) (sp := chkFault_sp) 3000 (bT 1 (bF 4 (bT 2 (bF 5 (bT 1 (bF 6 [])))))) [.one (.int .i64 r27), .one (.int .i64 r28), .one (.int .i64 r29)] [c_T, c_n b1_, c_n b1_, c_n b1_, c_n b1_, c_d b41_, c_T, c_n b43_, c_n b43_, c_n b43_, c_n b43_, c_n b51_, c_T, c_n b59_, c_n b59_, c_n b59_, c_n b59_, c_n b67_, c_F, ⟨fact (1 + 1 ≤ 1 + 1), true, fact_mk (by decide)⟩, ⟨fact (3 + 1 ≤ 3 + 1), true, fact_mk (by decide)⟩] [k_c f75_, k_c f77_, k_c f79_] (by kernel_rfl)
    · have h42_ := (if_neg b41_).symm.trans h2_
      by_cases b81_ : b < (0 : Int)
      · have h82_ := (if_pos b81_).symm.trans h42_
        by_cases b83_ : c < (1 : Int)
        · have h84_ := (if_pos b83_).symm.trans h82_
          obtain ⟨r30, f85_, h86_⟩ := pullD_elim h84_
          replace f85_ := m_102_ok f85_
          obtain ⟨r31, f87_, h88_⟩ := pullD_elim h86_
          replace f87_ := m_103_ok f87_
          obtain ⟨r32, f89_, h90_⟩ := pullD_elim h88_
          replace f89_ := m_83_ok f89_
          obtain rfl := Option.some.inj h90_
          exact con_pc (op := true) (I := [43, 95, 132]) (sp := chkFault_sp) 3000 (bT 1 (bF 5 (bT 12 []))) [.one (.int .i64 r30), .one (.int .i64 r31), .one (.int .i64 r32)] [c_T, c_n b1_, c_n b1_, c_n b1_, c_n b1_, c_n b41_, c_T, c_d b81_, c_d b81_, c_d b81_, c_d b81_, c_T, c_T, c_d b83_, c_d b83_, c_d b83_, c_d b83_, c_T, ⟨fact (1 + 1 ≤ 1 + 1), true, fact_mk (by decide)⟩, ⟨fact (3 + 1 ≤ 3 + 1), true, fact_mk (by decide)⟩] [k_c f85_, k_c f87_, k_c f89_] (by kernel_rfl)
        · have h84_ := (if_neg b83_).symm.trans h82_
          by_cases b91_ : c > (1000 : Int)
          · have h92_ := (if_pos b91_).symm.trans h84_
            obtain ⟨r33, f93_, h94_⟩ := pullD_elim h92_
            replace f93_ := m_102_ok f93_
            obtain ⟨r34, f95_, h96_⟩ := pullD_elim h94_
            replace f95_ := m_103_ok f95_
            obtain ⟨r35, f97_, h98_⟩ := pullD_elim h96_
            replace f97_ := m_83_ok f97_
            obtain rfl := Option.some.inj h98_
            exact con_pc (op := true) (I := [43, 95, 132]) (sp := chkFault_sp) 3000 (bT 1 (bF 5 (bT 7 (bF 4 (bT 1 []))))) [.one (.int .i64 r33), .one (.int .i64 r34), .one (.int .i64 r35)] [c_T, c_n b1_, c_n b1_, c_n b1_, c_n b1_, c_n b41_, c_T, c_d b81_, c_d b81_, c_d b81_, c_d b81_, c_T, c_T, c_n b83_, c_n b83_, c_n b83_, c_n b83_, c_d b91_, ⟨fact (1 + 1 ≤ 1 + 1), true, fact_mk (by decide)⟩, ⟨fact (3 + 1 ≤ 3 + 1), true, fact_mk (by decide)⟩] [k_c f93_, k_c f95_, k_c f97_] (by kernel_rfl)
          · have h92_ := (if_neg b91_).symm.trans h84_
            by_cases b99_ : d < (1 : Int)
            · have h100_ := (if_pos b99_).symm.trans h92_
              obtain ⟨r36, f101_, h102_⟩ := pullD_elim h100_
              replace f101_ := m_102_ok f101_
              obtain ⟨r37, f103_, h104_⟩ := pullD_elim h102_
              replace f103_ := m_103_ok f103_
              obtain ⟨r38, f105_, h106_⟩ := pullD_elim h104_
              replace f105_ := m_83_ok f105_
              obtain rfl := Option.some.inj h106_
              exact con_pc (op := true) (I := [43, 95, 132]) (sp := chkFault_sp) 3000 (bT 1 (bF 5 (bT 7 (bF 5 (bT 6 []))))) [.one (.int .i64 r36), .one (.int .i64 r37), .one (.int .i64 r38)] [c_T, c_n b1_, c_n b1_, c_n b1_, c_n b1_, c_n b41_, c_T, c_d b81_, c_d b81_, c_d b81_, c_d b81_, c_T, c_T, c_n b83_, c_n b83_, c_n b83_, c_n b83_, c_n b91_, c_T, c_d b99_, c_d b99_, c_d b99_, c_d b99_, c_T, ⟨fact (1 + 1 ≤ 1 + 1), true, fact_mk (by decide)⟩, ⟨fact (3 + 1 ≤ 3 + 1), true, fact_mk (by decide)⟩] [k_c f101_, k_c f103_, k_c f105_] (by kernel_rfl)
            · have h100_ := (if_neg b99_).symm.trans h92_
              by_cases b107_ : d > (1000 : Int)
              · have h108_ := (if_pos b107_).symm.trans h100_
                obtain ⟨r39, f109_, h110_⟩ := pullD_elim h108_
                replace f109_ := m_102_ok f109_
                obtain ⟨r40, f111_, h112_⟩ := pullD_elim h110_
                replace f111_ := m_103_ok f111_
                obtain ⟨r41, f113_, h114_⟩ := pullD_elim h112_
                replace f113_ := m_83_ok f113_
                obtain rfl := Option.some.inj h114_
                exact con_pc (op := true) (I := [43, 95, 132]) (sp := chkFault_sp) 3000 (bT 1 (bF 5 (bT 7 (bF 5 (bT 1 (bF 4 (bT 1 []))))))) [.one (.int .i64 r39), .one (.int .i64 r40), .one (.int .i64 r41)] [c_T, c_n b1_, c_n b1_, c_n b1_, c_n b1_, c_n b41_, c_T, c_d b81_, c_d b81_, c_d b81_, c_d b81_, c_T, c_T, c_n b83_, c_n b83_, c_n b83_, c_n b83_, c_n b91_, c_T, c_n b99_, c_n b99_, c_n b99_, c_n b99_, c_d b107_, ⟨fact (1 + 1 ≤ 1 + 1), true, fact_mk (by decide)⟩, ⟨fact (3 + 1 ≤ 3 + 1), true, fact_mk (by decide)⟩] [k_c f109_, k_c f111_, k_c f113_] (by kernel_rfl)
              · have h108_ := (if_neg b107_).symm.trans h100_
                obtain ⟨r42, f115_, h116_⟩ := pullD_elim h108_
                replace f115_ := m_102_ok f115_
                obtain ⟨r43, f117_, h118_⟩ := pullD_elim h116_
                replace f117_ := m_103_ok f117_
                obtain ⟨r44, f119_, h120_⟩ := pullD_elim h118_
                replace f119_ := m_83_ok f119_
                obtain rfl := Option.some.inj h120_
                exact con_pc (op := true) (I := [43, 95, 132]) (sp := chkFault_sp) 3000 (bT 1 (bF 5 (bT 7 (bF 5 (bT 1 (bF 6 [])))))) [.one (.int .i64 r42), .one (.int .i64 r43), .one (.int .i64 r44)] [c_T, c_n b1_, c_n b1_, c_n b1_, c_n b1_, c_n b41_, c_T, c_d b81_, c_d b81_, c_d b81_, c_d b81_, c_T, c_T, c_n b83_, c_n b83_, c_n b83_, c_n b83_, c_n b91_, c_T, c_n b99_, c_n b99_, c_n b99_, c_n b99_, c_n b107_, c_F, ⟨fact (1 + 1 ≤ 1 + 1), true, fact_mk (by decide)⟩, ⟨fact (3 + 1 ≤ 3 + 1), true, fact_mk (by decide)⟩] [k_c f115_, k_c f117_, k_c f119_] (by kernel_rfl)
      · have h82_ := (if_neg b81_).symm.trans h42_
        by_cases b121_ : b > (1000 : Int)
        · have h122_ := (if_pos b121_).symm.trans h82_
          by_cases b123_ : c < (1 : Int)
          · have h124_ := (if_pos b123_).symm.trans h122_
            obtain ⟨r45, f125_, h126_⟩ := pullD_elim h124_
            replace f125_ := m_102_ok f125_
            obtain ⟨r46, f127_, h128_⟩ := pullD_elim h126_
            replace f127_ := m_103_ok f127_
            obtain ⟨r47, f129_, h130_⟩ := pullD_elim h128_
            replace f129_ := m_83_ok f129_
            obtain rfl := Option.some.inj h130_
            exact con_pc (op := true) (I := [43, 95, 132]) (sp := chkFault_sp) 3000 (bT 1 (bF 5 (bT 1 (bF 4 (bT 7 []))))) [.one (.int .i64 r45), .one (.int .i64 r46), .one (.int .i64 r47)] [c_T, c_n b1_, c_n b1_, c_n b1_, c_n b1_, c_n b41_, c_T, c_n b81_, c_n b81_, c_n b81_, c_n b81_, c_d b121_, c_T, c_d b123_, c_d b123_, c_d b123_, c_d b123_, c_T, ⟨fact (1 + 1 ≤ 1 + 1), true, fact_mk (by decide)⟩, ⟨fact (3 + 1 ≤ 3 + 1), true, fact_mk (by decide)⟩] [k_c f125_, k_c f127_, k_c f129_] (by kernel_rfl)
          · have h124_ := (if_neg b123_).symm.trans h122_
            by_cases b131_ : c > (1000 : Int)
            · have h132_ := (if_pos b131_).symm.trans h124_
              obtain ⟨r48, f133_, h134_⟩ := pullD_elim h132_
              replace f133_ := m_102_ok f133_
              obtain ⟨r49, f135_, h136_⟩ := pullD_elim h134_
              replace f135_ := m_103_ok f135_
              obtain ⟨r50, f137_, h138_⟩ := pullD_elim h136_
              replace f137_ := m_83_ok f137_
              obtain rfl := Option.some.inj h138_
              exact con_pc (op := true) (I := [43, 95, 132]) (sp := chkFault_sp) 3000 (bT 1 (bF 5 (bT 1 (bF 4 (bT 2 (bF 4 (bT 1 []))))))) [.one (.int .i64 r48), .one (.int .i64 r49), .one (.int .i64 r50)] [c_T, c_n b1_, c_n b1_, c_n b1_, c_n b1_, c_n b41_, c_T, c_n b81_, c_n b81_, c_n b81_, c_n b81_, c_d b121_, c_T, c_n b123_, c_n b123_, c_n b123_, c_n b123_, c_d b131_, ⟨fact (1 + 1 ≤ 1 + 1), true, fact_mk (by decide)⟩, ⟨fact (3 + 1 ≤ 3 + 1), true, fact_mk (by decide)⟩] [k_c f133_, k_c f135_, k_c f137_] (by kernel_rfl)
            · have h132_ := (if_neg b131_).symm.trans h124_
              by_cases b139_ : d < (1 : Int)
              · have h140_ := (if_pos b139_).symm.trans h132_
                obtain ⟨r51, f141_, h142_⟩ := pullD_elim h140_
                replace f141_ := m_102_ok f141_
                obtain ⟨r52, f143_, h144_⟩ := pullD_elim h142_
                replace f143_ := m_103_ok f143_
                obtain ⟨r53, f145_, h146_⟩ := pullD_elim h144_
                replace f145_ := m_83_ok f145_
                obtain rfl := Option.some.inj h146_
                exact con_pc (op := true) (I := [43, 95, 132]) (sp := chkFault_sp) 3000 (bT 1 (bF 5 (bT 1 (bF 4 (bT 2 (bF 5 (bT 6 []))))))) [.one (.int .i64 r51), .one (.int .i64 r52), .one (.int .i64 r53)] [c_T, c_n b1_, c_n b1_, c_n b1_, c_n b1_, c_n b41_, c_T, c_n b81_, c_n b81_, c_n b81_, c_n b81_, c_d b121_, c_T, c_n b123_, c_n b123_, c_n b123_, c_n b123_, c_n b131_, c_T, c_d b139_, c_d b139_, c_d b139_, c_d b139_, c_T, ⟨fact (1 + 1 ≤ 1 + 1), true, fact_mk (by decide)⟩, ⟨fact (3 + 1 ≤ 3 + 1), true, fact_mk (by decide)⟩] [k_c f141_, k_c f143_, k_c f145_] (by kernel_rfl)
              · have h140_ := (if_neg b139_).symm.trans h132_
                by_cases b147_ : d > (1000 : Int)
                · have h148_ := (if_pos b147_).symm.trans h140_
                  obtain ⟨r54, f149_, h150_⟩ := pullD_elim h148_
                  replace f149_ := m_102_ok f149_
                  obtain ⟨r55, f151_, h152_⟩ := pullD_elim h150_
                  replace f151_ := m_103_ok f151_
                  obtain ⟨r56, f153_, h154_⟩ := pullD_elim h152_
                  replace f153_ := m_83_ok f153_
                  obtain rfl := Option.some.inj h154_
                  exact con_pc (op := true) (I := [43, 95, 132]) (sp := chkFault_sp) 3000 (bT 1 (bF 5 (bT 1 (bF 4 (bT 2 (bF 5 (bT 1 (bF 4 (bT 1 []))))))))) [.one (.int .i64 r54), .one (.int .i64 r55), .one (.int .i64 r56)] [c_T, c_n b1_, c_n b1_, c_n b1_, c_n b1_, c_n b41_, c_T, c_n b81_, c_n b81_, c_n b81_, c_n b81_, c_d b121_, c_T, c_n b123_, c_n b123_, c_n b123_, c_n b123_, c_n b131_, c_T, c_n b139_, c_n b139_, c_n b139_, c_n b139_, c_d b147_, ⟨fact (1 + 1 ≤ 1 + 1), true, fact_mk (by decide)⟩, ⟨fact (3 + 1 ≤ 3 + 1), true, fact_mk (by decide)⟩] [k_c f149_, k_c f151_, k_c f153_] (by kernel_rfl)
                · have h148_ := (if_neg b147_).symm.trans h140_
                  obtain ⟨r57, f155_, h156_⟩ := pullD_elim h148_
                  replace f155_ := m_102_ok f155_
                  obtain ⟨r58, f157_, h158_⟩ := pullD_elim h156_
                  replace f157_ := m_103_ok f157_
                  obtain ⟨r59, f159_, h160_⟩ := pullD_elim h158_
                  replace f159_ := m_83_ok f159_
                  obtain rfl := Option.some.inj h160_
                  exact con_pc (op := true) (I := [43, 95, 132]) (sp := chkFault_sp) 3000 (bT 1 (bF 5 (bT 1 (bF 4 (bT 2 (bF 5 (bT 1 (bF 6 [])))))))) [.one (.int .i64 r57), .one (.int .i64 r58), .one (.int .i64 r59)] [c_T, c_n b1_, c_n b1_, c_n b1_, c_n b1_, c_n b41_, c_T, c_n b81_, c_n b81_, c_n b81_, c_n b81_, c_d b121_, c_T, c_n b123_, c_n b123_, c_n b123_, c_n b123_, c_n b131_, c_T, c_n b139_, c_n b139_, c_n b139_, c_n b139_, c_n b147_, c_F, ⟨fact (1 + 1 ≤ 1 + 1), true, fact_mk (by decide)⟩, ⟨fact (3 + 1 ≤ 3 + 1), true, fact_mk (by decide)⟩] [k_c f155_, k_c f157_, k_c f159_] (by kernel_rfl)
        · have h122_ := (if_neg b121_).symm.trans h82_
          by_cases b161_ : c < (1 : Int)
          · have h162_ := (if_pos b161_).symm.trans h122_
            obtain ⟨r60, f163_, h164_⟩ := pullD_elim h162_
            replace f163_ := m_102_ok f163_
            obtain ⟨r61, f165_, h166_⟩ := pullD_elim h164_
            replace f165_ := m_103_ok f165_
            obtain ⟨r62, f167_, h168_⟩ := pullD_elim h166_
            replace f167_ := m_83_ok f167_
            obtain rfl := Option.some.inj h168_
            exact con_pc (op := true) (I := [43, 95, 132]) (sp := chkFault_sp) 3000 (bT 1 (bF 5 (bT 1 (bF 6 (bT 6 []))))) [.one (.int .i64 r60), .one (.int .i64 r61), .one (.int .i64 r62)] [c_T, c_n b1_, c_n b1_, c_n b1_, c_n b1_, c_n b41_, c_T, c_n b81_, c_n b81_, c_n b81_, c_n b81_, c_n b121_, c_F, c_T, c_d b161_, c_d b161_, c_d b161_, c_d b161_, c_T, ⟨fact (1 + 1 ≤ 1 + 1), true, fact_mk (by decide)⟩, ⟨fact (3 + 1 ≤ 3 + 1), true, fact_mk (by decide)⟩] [k_c f163_, k_c f165_, k_c f167_] (by kernel_rfl)
          · have h162_ := (if_neg b161_).symm.trans h122_
            by_cases b169_ : c > (1000 : Int)
            · have h170_ := (if_pos b169_).symm.trans h162_
              obtain ⟨r63, f171_, h172_⟩ := pullD_elim h170_
              replace f171_ := m_102_ok f171_
              obtain ⟨r64, f173_, h174_⟩ := pullD_elim h172_
              replace f173_ := m_103_ok f173_
              obtain ⟨r65, f175_, h176_⟩ := pullD_elim h174_
              replace f175_ := m_83_ok f175_
              obtain rfl := Option.some.inj h176_
              exact con_pc (op := true) (I := [43, 95, 132]) (sp := chkFault_sp) 3000 (bT 1 (bF 5 (bT 1 (bF 6 (bT 1 (bF 4 (bT 1 []))))))) [.one (.int .i64 r63), .one (.int .i64 r64), .one (.int .i64 r65)] [c_T, c_n b1_, c_n b1_, c_n b1_, c_n b1_, c_n b41_, c_T, c_n b81_, c_n b81_, c_n b81_, c_n b81_, c_n b121_, c_F, c_T, c_n b161_, c_n b161_, c_n b161_, c_n b161_, c_d b169_, ⟨fact (1 + 1 ≤ 1 + 1), true, fact_mk (by decide)⟩, ⟨fact (3 + 1 ≤ 3 + 1), true, fact_mk (by decide)⟩] [k_c f171_, k_c f173_, k_c f175_] (by kernel_rfl)
            · have h170_ := (if_neg b169_).symm.trans h162_
              by_cases b177_ : d < (1 : Int)
              · have h178_ := (if_pos b177_).symm.trans h170_
                obtain ⟨r66, f179_, h180_⟩ := pullD_elim h178_
                replace f179_ := m_102_ok f179_
                obtain ⟨r67, f181_, h182_⟩ := pullD_elim h180_
                replace f181_ := m_103_ok f181_
                obtain ⟨r68, f183_, h184_⟩ := pullD_elim h182_
                replace f183_ := m_83_ok f183_
                obtain rfl := Option.some.inj h184_
                exact con_pc (op := true) (I := [43, 95, 132]) (sp := chkFault_sp) 3000 (bT 1 (bF 5 (bT 1 (bF 6 (bT 1 (bF 5 (bT 6 []))))))) [.one (.int .i64 r66), .one (.int .i64 r67), .one (.int .i64 r68)] [c_T, c_n b1_, c_n b1_, c_n b1_, c_n b1_, c_n b41_, c_T, c_n b81_, c_n b81_, c_n b81_, c_n b81_, c_n b121_, c_F, c_T, c_n b161_, c_n b161_, c_n b161_, c_n b161_, c_n b169_, c_T, c_d b177_, c_d b177_, c_d b177_, c_d b177_, c_T, ⟨fact (1 + 1 ≤ 1 + 1), true, fact_mk (by decide)⟩, ⟨fact (3 + 1 ≤ 3 + 1), true, fact_mk (by decide)⟩] [k_c f179_, k_c f181_, k_c f183_] (by kernel_rfl)
              · have h178_ := (if_neg b177_).symm.trans h170_
                by_cases b185_ : d > (1000 : Int)
                · have h186_ := (if_pos b185_).symm.trans h178_
                  obtain ⟨r69, f187_, h188_⟩ := pullD_elim h186_
                  replace f187_ := m_102_ok f187_
                  obtain ⟨r70, f189_, h190_⟩ := pullD_elim h188_
                  replace f189_ := m_103_ok f189_
                  obtain ⟨r71, f191_, h192_⟩ := pullD_elim h190_
                  replace f191_ := m_83_ok f191_
                  obtain rfl := Option.some.inj h192_
                  exact con_pc (op := true) (I := [43, 95, 132]) (sp := chkFault_sp) 3000 (bT 1 (bF 5 (bT 1 (bF 6 (bT 1 (bF 5 (bT 1 (bF 4 (bT 1 []))))))))) [.one (.int .i64 r69), .one (.int .i64 r70), .one (.int .i64 r71)] [c_T, c_n b1_, c_n b1_, c_n b1_, c_n b1_, c_n b41_, c_T, c_n b81_, c_n b81_, c_n b81_, c_n b81_, c_n b121_, c_F, c_T, c_n b161_, c_n b161_, c_n b161_, c_n b161_, c_n b169_, c_T, c_n b177_, c_n b177_, c_n b177_, c_n b177_, c_d b185_, ⟨fact (1 + 1 ≤ 1 + 1), true, fact_mk (by decide)⟩, ⟨fact (3 + 1 ≤ 3 + 1), true, fact_mk (by decide)⟩] [k_c f187_, k_c f189_, k_c f191_] (by kernel_rfl)
                · have h186_ := (if_neg b185_).symm.trans h178_
                  obtain ⟨r72, f193_, h194_⟩ := pullD_elim h186_
                  replace f193_ := m_102_ok f193_
                  obtain ⟨r73, f195_, h196_⟩ := pullD_elim h194_
                  replace f195_ := m_103_ok f195_
                  obtain ⟨r74, f197_, h198_⟩ := pullD_elim h196_
                  replace f197_ := m_83_ok f197_
                  obtain rfl := Option.some.inj h198_
                  exact con_pc (op := true) (I := [43, 95, 132]) (sp := chkFault_sp) 3000 (bT 1 (bF 5 (bT 1 (bF 6 (bT 1 (bF 5 (bT 1 (bF 6 [])))))))) [.one (.int .i64 r72), .one (.int .i64 r73), .one (.int .i64 r74)] [c_T, c_n b1_, c_n b1_, c_n b1_, c_n b1_, c_n b41_, c_T, c_n b81_, c_n b81_, c_n b81_, c_n b81_, c_n b121_, c_F, c_T, c_n b161_, c_n b161_, c_n b161_, c_n b161_, c_n b169_, c_T, c_n b177_, c_n b177_, c_n b177_, c_n b177_, c_n b185_, c_F, ⟨fact (1 + 1 ≤ 1 + 1), true, fact_mk (by decide)⟩, ⟨fact (3 + 1 ≤ 3 + 1), true, fact_mk (by decide)⟩] [k_c f193_, k_c f195_, k_c f197_] (by kernel_rfl)
def m_43 (ds : List D) : Option D := pullD (α := Int × Int × Int × Int × Int × Int) (some (.tup ds)) (fun d => ((D.vi (D.at (D.at d 0) 0)), (D.vi (D.at (D.at d 0) 1)), (D.vi (D.at (D.at d 0) 2)), (D.vi (D.at (D.at d 0) 3)), (D.vi (D.at (D.at d 0) 4)), (D.vi (D.at (D.at d 0) 5)))) (fun (a, b, c, d, n, m) => .tup [(shNF1_1 a b c d n m)]) fun (a, b, c, d, n, m) => chkFault_M a b c d n m
theorem m_43_ok {ds : List D} {r : D} (h : m_43 ds = some r) : Con 43 ds r := by
  unfold m_43 at h
  obtain ⟨⟨a, b, c, d, n, m⟩, e0, h0⟩ := pullD_elim h
  obtain rfl := tup_inj e0
  exact chkFault_M_ok a b c d n m h0
theorem m_43_eq (a b c d n m : Int) : m_43 [(shNF1_1 a b c d n m)] = chkFault_M a b c d n m := pullD_some (a, b, c, d, n, m) rfl rfl
def chkdFault_sp : List LSpec := []
def chkdFault_M (a b c d n m : Int) : Option D := pullD (α := Int) (m_43 [(shNF1_1 a b c d n m)]) (fun d => ((D.vi d))) (fun r0 => .one (.int .i64 r0)) fun r0 => ((if r0 ≠ (0 : Int) then some (.tup [(shNF1_1 (0 : Int) (0 : Int) (0 : Int) (0 : Int) (0 : Int) (0 : Int)), .one (.int .i64 r0)]) else some (.tup [(shNF1_1 a b c d n m), .one (.int .i64 (0 : Int))])))
theorem chkdFault_M_ok (a b c d n m : Int) {r : D} (h : chkdFault_M a b c d n m = some r) : Con 98 [(shNF1_1 a b c d n m)] r := by
  unfold chkdFault_M at h
  obtain ⟨r0, f1_, h2_⟩ := pullD_elim h
  replace f1_ := m_43_ok f1_
  by_cases b3_ : r0 ≠ (0 : Int)
  · have h4_ := (if_pos b3_).symm.trans h2_
    obtain rfl := Option.some.inj h4_
    exact con_pc (op := true) (I := [98]) (sp := chkdFault_sp) 3000 (bT 1 []) [.one (.int .i64 r0)] [c_b b3_] [k_c f1_] (by kernel_rfl)
  · have h4_ := (if_neg b3_).symm.trans h2_
    have b5_ : r0 = (0 : Int) := by first | exact b3_ | simpa using b3_
    obtain rfl := Option.some.inj h4_
    exact con_pc (op := true) (I := [98]) (sp := chkdFault_sp) 3000 (bF 1 []) [.one (.int .i64 r0)] [c_bn b5_] [k_c f1_] (by kernel_rfl)
def m_98 (ds : List D) : Option D := pullD (α := Int × Int × Int × Int × Int × Int) (some (.tup ds)) (fun d => ((D.vi (D.at (D.at d 0) 0)), (D.vi (D.at (D.at d 0) 1)), (D.vi (D.at (D.at d 0) 2)), (D.vi (D.at (D.at d 0) 3)), (D.vi (D.at (D.at d 0) 4)), (D.vi (D.at (D.at d 0) 5)))) (fun (a, b, c, d, n, m) => .tup [(shNF1_1 a b c d n m)]) fun (a, b, c, d, n, m) => chkdFault_M a b c d n m
theorem m_98_ok {ds : List D} {r : D} (h : m_98 ds = some r) : Con 98 ds r := by
  unfold m_98 at h
  obtain ⟨⟨a, b, c, d, n, m⟩, e0, h0⟩ := pullD_elim h
  obtain rfl := tup_inj e0
  exact chkdFault_M_ok a b c d n m h0
theorem m_98_eq (a b c d n m : Int) : m_98 [(shNF1_1 a b c d n m)] = chkdFault_M a b c d n m := pullD_some (a, b, c, d, n, m) rfl rfl
def faultErr_sp : List LSpec := []
def faultErr_M (a b c d n m : Int) : Option D := pullD (α := Bool) (m_30 [.one (.int .i64 a), .one (.int .i64 (0 : Int)), .one (.int .i64 (1000 : Int))]) (fun d => ((D.vb d))) (fun r0 => .one (.bool r0)) fun r0 => ((if r0 = false then some (.one (.int .i64 (2 : Int))) else pullD (α := Bool) (m_30 [.one (.int .i64 b), .one (.int .i64 (0 : Int)), .one (.int .i64 (1000 : Int))]) (fun d => ((D.vb d))) (fun r1 => .one (.bool r1)) fun r1 => ((if r1 = false then some (.one (.int .i64 (2 : Int))) else pullD (α := Bool) (m_30 [.one (.int .i64 c), .one (.int .i64 (1 : Int)), .one (.int .i64 (1000 : Int))]) (fun d => ((D.vb d))) (fun r2 => .one (.bool r2)) fun r2 => ((if r2 = false then some (.one (.int .i64 (2 : Int))) else pullD (α := Bool) (m_30 [.one (.int .i64 d), .one (.int .i64 (1 : Int)), .one (.int .i64 (1000 : Int))]) (fun d => ((D.vb d))) (fun r3 => .one (.bool r3)) fun r3 => ((if r3 = false then some (.one (.int .i64 (2 : Int))) else (if a > b then some (.one (.int .i64 (9 : Int))) else (if c > d then some (.one (.int .i64 (9 : Int))) else pullD (α := Bool) (m_47 [.agg [.one (.int .i64 n), .one (.int .i64 m)]]) (fun d => ((D.vb d))) (fun r4 => .one (.bool r4)) fun r4 => ((if r4 = false then some (.one (.int .i64 (3 : Int))) else pullD (α := Bool) (m_30 [.one (.int .i64 n), .one (.int .i64 (1 : Int)), .one (.int .i64 (100 : Int))]) (fun d => ((D.vb d))) (fun r5 => .one (.bool r5)) fun r5 => ((if r5 = false then some (.one (.int .i64 (2 : Int))) else (if m > (100 : Int) then some (.one (.int .i64 (2 : Int))) else some (.one (.int .i64 (0 : Int))))))))))))))))))
theorem faultErr_M_ok (a b c d n m : Int) {r : D} (h : faultErr_M a b c d n m = some r) : Con 42 [(shNF1_1 a b c d n m)] r := by
  unfold faultErr_M at h
  obtain ⟨r0, f1_, h2_⟩ := pullD_elim h
  replace f1_ := m_30_ok f1_
  by_cases b3_ : r0 = false
  · have h4_ := (if_pos b3_).symm.trans h2_
    obtain rfl := Option.some.inj h4_
    exact con_pc (op := true) (I := [42]) (sp := faultErr_sp) 3000 (bT 19 []) [.one (.bool r0)] [c_no b3_, c_no b3_, c_no b3_, c_no b3_, c_no b3_, c_no b3_, c_T, c_T, c_T, c_T, c_T, c_T, c_T, c_T, c_T, c_T, c_T, c_T, c_T] [k_c f1_] (by kernel_rfl)
  · have h4_ := (if_neg b3_).symm.trans h2_
    have b5_ : r0 = true := by first | exact b3_ | simpa using b3_
    obtain ⟨r1, f6_, h7_⟩ := pullD_elim h4_
    replace f6_ := m_30_ok f6_
    by_cases b8_ : r1 = false
    · have h9_ := (if_pos b8_).symm.trans h7_
      obtain rfl := Option.some.inj h9_
      exact con_pc (op := true) (I := [42]) (sp := faultErr_sp) 3000 (bF 6 (bT 13 [])) [.one (.bool r0), .one (.bool r1)] [c_nn b5_, c_nn b5_, c_nn b5_, c_nn b5_, c_nn b5_, c_nn b5_, c_no b8_, c_no b8_, c_no b8_, c_no b8_, c_no b8_, c_no b8_, c_T, c_T, c_T, c_T, c_T, c_T, c_T] [k_c f1_, k_c f6_] (by kernel_rfl)
    · have h9_ := (if_neg b8_).symm.trans h7_
      have b10_ : r1 = true := by first | exact b8_ | simpa using b8_
      obtain ⟨r2, f11_, h12_⟩ := pullD_elim h9_
      replace f11_ := m_30_ok f11_
      by_cases b13_ : r2 = false
      · have h14_ := (if_pos b13_).symm.trans h12_
        obtain rfl := Option.some.inj h14_
        exact con_pc (op := true) (I := [42]) (sp := faultErr_sp) 3000 (bF 12 (bT 7 [])) [.one (.bool r0), .one (.bool r1), .one (.bool r2)] [c_nn b5_, c_nn b5_, c_nn b5_, c_nn b5_, c_nn b5_, c_nn b5_, c_nn b10_, c_nn b10_, c_nn b10_, c_nn b10_, c_nn b10_, c_nn b10_, c_no b13_, c_no b13_, c_no b13_, c_no b13_, c_no b13_, c_no b13_, c_T] [k_c f1_, k_c f6_, k_c f11_] (by kernel_rfl)
      · have h14_ := (if_neg b13_).symm.trans h12_
        have b15_ : r2 = true := by first | exact b13_ | simpa using b13_
        obtain ⟨r3, f16_, h17_⟩ := pullD_elim h14_
        replace f16_ := m_30_ok f16_
        by_cases b18_ : r3 = false
        · have h19_ := (if_pos b18_).symm.trans h17_
          obtain rfl := Option.some.inj h19_
          exact con_pc (op := true) (I := [42]) (sp := faultErr_sp) 3000 (bF 18 (bT 1 [])) [.one (.bool r0), .one (.bool r1), .one (.bool r2), .one (.bool r3)] [c_nn b5_, c_nn b5_, c_nn b5_, c_nn b5_, c_nn b5_, c_nn b5_, c_nn b10_, c_nn b10_, c_nn b10_, c_nn b10_, c_nn b10_, c_nn b10_, c_nn b15_, c_nn b15_, c_nn b15_, c_nn b15_, c_nn b15_, c_nn b15_, c_no b18_] [k_c f1_, k_c f6_, k_c f11_, k_c f16_] (by kernel_rfl)
        · have h19_ := (if_neg b18_).symm.trans h17_
          have b20_ : r3 = true := by first | exact b18_ | simpa using b18_
          by_cases b21_ : a > b
          · have h22_ := (if_pos b21_).symm.trans h19_
            obtain rfl := Option.some.inj h22_
            exact con_pc (op := true) (I := [42]) (sp := faultErr_sp) 3000 (bF 19 (bT 9 [])) [.one (.bool r0), .one (.bool r1), .one (.bool r2), .one (.bool r3)] [c_nn b5_, c_nn b5_, c_nn b5_, c_nn b5_, c_nn b5_, c_nn b5_, c_nn b10_, c_nn b10_, c_nn b10_, c_nn b10_, c_nn b10_, c_nn b10_, c_nn b15_, c_nn b15_, c_nn b15_, c_nn b15_, c_nn b15_, c_nn b15_, c_nn b20_, c_d b21_, c_d b21_, c_d b21_, c_d b21_, c_d b21_, c_d b21_, c_d b21_, c_d b21_, c_T] [k_c f1_, k_c f6_, k_c f11_, k_c f16_] (by kernel_rfl)
          · have h22_ := (if_neg b21_).symm.trans h19_
            by_cases b23_ : c > d
            · have h24_ := (if_pos b23_).symm.trans h22_
              obtain rfl := Option.some.inj h24_
              exact con_pc (op := true) (I := [42]) (sp := faultErr_sp) 3000 (bF 27 (bT 1 [])) [.one (.bool r0), .one (.bool r1), .one (.bool r2), .one (.bool r3)] [c_nn b5_, c_nn b5_, c_nn b5_, c_nn b5_, c_nn b5_, c_nn b5_, c_nn b10_, c_nn b10_, c_nn b10_, c_nn b10_, c_nn b10_, c_nn b10_, c_nn b15_, c_nn b15_, c_nn b15_, c_nn b15_, c_nn b15_, c_nn b15_, c_nn b20_, c_n b21_, c_n b21_, c_n b21_, c_n b21_, c_n b21_, c_n b21_, c_n b21_, c_n b21_, c_d b23_] [k_c f1_, k_c f6_, k_c f11_, k_c f16_] (by kernel_rfl)
            · have h24_ := (if_neg b23_).symm.trans h22_
              obtain ⟨r4, f25_, h26_⟩ := pullD_elim h24_
              replace f25_ := m_47_ok f25_
              by_cases b27_ : r4 = false
              · have h28_ := (if_pos b27_).symm.trans h26_
                obtain rfl := Option.some.inj h28_
                exact con_pc (op := true) (I := [42]) (sp := faultErr_sp) 3000 (bF 28 (bT 1 [])) [.one (.bool r0), .one (.bool r1), .one (.bool r2), .one (.bool r3), .one (.bool r4)] [c_nn b5_, c_nn b5_, c_nn b5_, c_nn b5_, c_nn b5_, c_nn b5_, c_nn b10_, c_nn b10_, c_nn b10_, c_nn b10_, c_nn b10_, c_nn b10_, c_nn b15_, c_nn b15_, c_nn b15_, c_nn b15_, c_nn b15_, c_nn b15_, c_nn b20_, c_n b21_, c_n b21_, c_n b21_, c_n b21_, c_n b21_, c_n b21_, c_n b21_, c_n b21_, c_n b23_, c_no b27_] [k_c f1_, k_c f6_, k_c f11_, k_c f16_, k_c f25_] (by kernel_rfl)
              · have h28_ := (if_neg b27_).symm.trans h26_
                have b29_ : r4 = true := by first | exact b27_ | simpa using b27_
                obtain ⟨r5, f30_, h31_⟩ := pullD_elim h28_
                replace f30_ := m_30_ok f30_
                by_cases b32_ : r5 = false
                · have h33_ := (if_pos b32_).symm.trans h31_
                  obtain rfl := Option.some.inj h33_
                  exact con_pc (op := true) (I := [42]) (sp := faultErr_sp) 3000 (bF 29 (bT 6 [])) [.one (.bool r0), .one (.bool r1), .one (.bool r2), .one (.bool r3), .one (.bool r4), .one (.bool r5)] [c_nn b5_, c_nn b5_, c_nn b5_, c_nn b5_, c_nn b5_, c_nn b5_, c_nn b10_, c_nn b10_, c_nn b10_, c_nn b10_, c_nn b10_, c_nn b10_, c_nn b15_, c_nn b15_, c_nn b15_, c_nn b15_, c_nn b15_, c_nn b15_, c_nn b20_, c_n b21_, c_n b21_, c_n b21_, c_n b21_, c_n b21_, c_n b21_, c_n b21_, c_n b21_, c_n b23_, c_nn b29_, c_no b32_, c_no b32_, c_no b32_, c_no b32_, c_no b32_, c_T] [k_c f1_, k_c f6_, k_c f11_, k_c f16_, k_c f25_, k_c f30_] (by kernel_rfl)
                · have h33_ := (if_neg b32_).symm.trans h31_
                  have b34_ : r5 = true := by first | exact b32_ | simpa using b32_
                  by_cases b35_ : m > (100 : Int)
                  · have h36_ := (if_pos b35_).symm.trans h33_
                    obtain rfl := Option.some.inj h36_
                    exact con_pc (op := true) (I := [42]) (sp := faultErr_sp) 3000 (bF 34 (bT 1 [])) [.one (.bool r0), .one (.bool r1), .one (.bool r2), .one (.bool r3), .one (.bool r4), .one (.bool r5)] [c_nn b5_, c_nn b5_, c_nn b5_, c_nn b5_, c_nn b5_, c_nn b5_, c_nn b10_, c_nn b10_, c_nn b10_, c_nn b10_, c_nn b10_, c_nn b10_, c_nn b15_, c_nn b15_, c_nn b15_, c_nn b15_, c_nn b15_, c_nn b15_, c_nn b20_, c_n b21_, c_n b21_, c_n b21_, c_n b21_, c_n b21_, c_n b21_, c_n b21_, c_n b21_, c_n b23_, c_nn b29_, c_nn b34_, c_nn b34_, c_nn b34_, c_nn b34_, c_nn b34_, c_d b35_] [k_c f1_, k_c f6_, k_c f11_, k_c f16_, k_c f25_, k_c f30_] (by kernel_rfl)
                  · have h36_ := (if_neg b35_).symm.trans h33_
                    obtain rfl := Option.some.inj h36_
                    exact con_pc (op := true) (I := [42]) (sp := faultErr_sp) 3000 (bF 35 []) [.one (.bool r0), .one (.bool r1), .one (.bool r2), .one (.bool r3), .one (.bool r4), .one (.bool r5)] [c_nn b5_, c_nn b5_, c_nn b5_, c_nn b5_, c_nn b5_, c_nn b5_, c_nn b10_, c_nn b10_, c_nn b10_, c_nn b10_, c_nn b10_, c_nn b10_, c_nn b15_, c_nn b15_, c_nn b15_, c_nn b15_, c_nn b15_, c_nn b15_, c_nn b20_, c_n b21_, c_n b21_, c_n b21_, c_n b21_, c_n b21_, c_n b21_, c_n b21_, c_n b21_, c_n b23_, c_nn b29_, c_nn b34_, c_nn b34_, c_nn b34_, c_nn b34_, c_nn b34_, c_n b35_] [k_c f1_, k_c f6_, k_c f11_, k_c f16_, k_c f25_, k_c f30_] (by kernel_rfl)
def m_42 (ds : List D) : Option D := pullD (α := Int × Int × Int × Int × Int × Int) (some (.tup ds)) (fun d => ((D.vi (D.at (D.at d 0) 0)), (D.vi (D.at (D.at d 0) 1)), (D.vi (D.at (D.at d 0) 2)), (D.vi (D.at (D.at d 0) 3)), (D.vi (D.at (D.at d 0) 4)), (D.vi (D.at (D.at d 0) 5)))) (fun (a, b, c, d, n, m) => .tup [(shNF1_1 a b c d n m)]) fun (a, b, c, d, n, m) => faultErr_M a b c d n m
theorem m_42_ok {ds : List D} {r : D} (h : m_42 ds = some r) : Con 42 ds r := by
  unfold m_42 at h
  obtain ⟨⟨a, b, c, d, n, m⟩, e0, h0⟩ := pullD_elim h
  obtain rfl := tup_inj e0
  exact faultErr_M_ok a b c d n m h0
theorem m_42_eq (a b c d n m : Int) : m_42 [(shNF1_1 a b c d n m)] = faultErr_M a b c d n m := pullD_some (a, b, c, d, n, m) rfl rfl
def unitErr_sp : List LSpec := []
def unitErr_M (u : Int) : Option D := pullD (α := Bool) (m_30 [.one (.int .i64 u), .one (.int .i64 (0 : Int)), .one (.int .i64 (10000000 : Int))]) (fun d => ((D.vb d))) (fun r0 => .one (.bool r0)) fun r0 => ((if r0 = false then some (.one (.int .i64 (2 : Int))) else some (.one (.int .i64 (0 : Int)))))
theorem unitErr_M_ok (u : Int) {r : D} (h : unitErr_M u = some r) : Con 45 [.one (.int .i64 u)] r := by
  unfold unitErr_M at h
  obtain ⟨r0, f1_, h2_⟩ := pullD_elim h
  replace f1_ := m_30_ok f1_
  by_cases b3_ : r0 = false
  · have h4_ := (if_pos b3_).symm.trans h2_
    obtain rfl := Option.some.inj h4_
    exact con_pc (op := true) (I := [45]) (sp := unitErr_sp) 3000 (bT 1 []) [.one (.bool r0)] [c_no b3_] [k_c f1_] (by kernel_rfl)
  · have h4_ := (if_neg b3_).symm.trans h2_
    have b5_ : r0 = true := by first | exact b3_ | simpa using b3_
    obtain rfl := Option.some.inj h4_
    exact con_pc (op := true) (I := [45]) (sp := unitErr_sp) 3000 (bF 1 []) [.one (.bool r0)] [c_nn b5_] [k_c f1_] (by kernel_rfl)
def m_45 (ds : List D) : Option D := pullD (α := Int) (some (.tup ds)) (fun d => ((D.vi (D.at d 0)))) (fun u => .tup [.one (.int .i64 u)]) fun u => unitErr_M u
theorem m_45_ok {ds : List D} {r : D} (h : m_45 ds = some r) : Con 45 ds r := by
  unfold m_45 at h
  obtain ⟨u, e0, h0⟩ := pullD_elim h
  obtain rfl := tup_inj e0
  exact unitErr_M_ok u h0
theorem m_45_eq (u : Int) : m_45 [.one (.int .i64 u)] = unitErr_M u := pullD_some u rfl rfl
def peakR_sp : List LSpec := []
def peakR_M (a b c d n m : Int) : Option D := pullD (α := Int × Int) (m_104 [.one (.int .i64 (IntKind.i64.wrap (a * n))), .one (.int .i64 (IntKind.i64.wrap (d * m)))]) (fun d => ((D.vi (D.at d 0)), (D.vi (D.at d 1)))) (fun (r0, r1) => .agg [.one (.int .i64 r0), .one (.int .i64 r1)]) fun (r0, r1) => (pullD (α := Int × Int) (m_104 [.one (.int .i64 (IntKind.i64.wrap (b * n))), .one (.int .i64 (IntKind.i64.wrap (c * m)))]) (fun d => ((D.vi (D.at d 0)), (D.vi (D.at d 1)))) (fun (r2, r3) => .agg [.one (.int .i64 r2), .one (.int .i64 r3)]) fun (r2, r3) => (some ((shNF1_0 r0 r1 r2 r3))))
theorem peakR_M_ok (a b c d n m : Int) {r : D} (h : peakR_M a b c d n m = some r) : Con 44 [(shNF1_1 a b c d n m)] r := by
  unfold peakR_M at h
  obtain ⟨⟨r0, r1⟩, f1_, h2_⟩ := pullD_elim h
  replace f1_ := m_104_ok f1_
  obtain ⟨⟨r2, r3⟩, f3_, h4_⟩ := pullD_elim h2_
  replace f3_ := m_104_ok f3_
  obtain rfl := Option.some.inj h4_
  exact con_pc (op := true) (I := [44]) (sp := peakR_sp) 3000 [] [.agg [.one (.int .i64 r0), .one (.int .i64 r1)], .agg [.one (.int .i64 r2), .one (.int .i64 r3)]] [] [k_c f1_, k_c f3_] (by kernel_rfl)
def m_44 (ds : List D) : Option D := pullD (α := Int × Int × Int × Int × Int × Int) (some (.tup ds)) (fun d => ((D.vi (D.at (D.at d 0) 0)), (D.vi (D.at (D.at d 0) 1)), (D.vi (D.at (D.at d 0) 2)), (D.vi (D.at (D.at d 0) 3)), (D.vi (D.at (D.at d 0) 4)), (D.vi (D.at (D.at d 0) 5)))) (fun (a, b, c, d, n, m) => .tup [(shNF1_1 a b c d n m)]) fun (a, b, c, d, n, m) => peakR_M a b c d n m
theorem m_44_ok {ds : List D} {r : D} (h : m_44 ds = some r) : Con 44 ds r := by
  unfold m_44 at h
  obtain ⟨⟨a, b, c, d, n, m⟩, e0, h0⟩ := pullD_elim h
  obtain rfl := tup_inj e0
  exact peakR_M_ok a b c d n m h0
theorem m_44_eq (a b c d n m : Int) : m_44 [(shNF1_1 a b c d n m)] = peakR_M a b c d n m := pullD_some (a, b, c, d, n, m) rfl rfl
def cmpForce_sp : List LSpec := []
def cmpForce_M (u n d l : Int) : Option D := pullD (α := Int × Nat × (List D) × Int × Nat × (List D)) (m_67 [.one (.int .i64 u)]) (fun d => ((D.vi (D.at d 0)), (D.ln (D.at d 1)), (D.lc (D.at d 1)), (D.vi (D.at d 2)), (D.ln (D.at d 3)), (D.lc (D.at d 3)))) (fun (r0, k1, c2, r3, k4, c5) => .agg [.one (.int .i64 r0), .list k1 c2, .one (.int .i64 r3), .list k4 c5]) fun (r0, k1, c2, r3, k4, c5) => (pullD (α := Int × Nat × (List D) × Int × Nat × (List D)) (m_69 [.agg [.one (.int .i64 n), .one (.int .i64 d)]]) (fun d => ((D.vi (D.at d 0)), (D.ln (D.at d 1)), (D.lc (D.at d 1)), (D.vi (D.at d 2)), (D.ln (D.at d 3)), (D.lc (D.at d 3)))) (fun (r6, k7, c8, r9, k10, c11) => .agg [.one (.int .i64 r6), .list k7 c8, .one (.int .i64 r9), .list k10 c11]) fun (r6, k7, c8, r9, k10, c11) => (pullD (α := Int × Nat × (List D) × Int × Nat × (List D)) (m_69 [.agg [.one (.int .i64 n), .one (.int .i64 d)]]) (fun d => ((D.vi (D.at d 0)), (D.ln (D.at d 1)), (D.lc (D.at d 1)), (D.vi (D.at d 2)), (D.ln (D.at d 3)), (D.lc (D.at d 3)))) (fun (r12, k13, c14, r15, k16, c17) => .agg [.one (.int .i64 r12), .list k13 c14, .one (.int .i64 r15), .list k16 c17]) fun (r12, k13, c14, r15, k16, c17) => (pullD (α := Int × Nat × (List D) × Int × Nat × (List D)) (m_70 [.agg [.one (.int .i64 r6), .list k7 c8, .one (.int .i64 r9), .list k10 c11], .agg [.one (.int .i64 r12), .list k13 c14, .one (.int .i64 r15), .list k16 c17]]) (fun d => ((D.vi (D.at d 0)), (D.ln (D.at d 1)), (D.lc (D.at d 1)), (D.vi (D.at d 2)), (D.ln (D.at d 3)), (D.lc (D.at d 3)))) (fun (r18, k19, c20, r21, k22, c23) => .agg [.one (.int .i64 r18), .list k19 c20, .one (.int .i64 r21), .list k22 c23]) fun (r18, k19, c20, r21, k22, c23) => (pullD (α := Int × Nat × (List D) × Int × Nat × (List D)) (m_70 [.agg [.one (.int .i64 r0), .list k1 c2, .one (.int .i64 r3), .list k4 c5], .agg [.one (.int .i64 r18), .list k19 c20, .one (.int .i64 r21), .list k22 c23]]) (fun d => ((D.vi (D.at d 0)), (D.ln (D.at d 1)), (D.lc (D.at d 1)), (D.vi (D.at d 2)), (D.ln (D.at d 3)), (D.lc (D.at d 3)))) (fun (r24, k25, c26, r27, k28, c29) => .agg [.one (.int .i64 r24), .list k25 c26, .one (.int .i64 r27), .list k28 c29]) fun (r24, k25, c26, r27, k28, c29) => (pullD (α := Int × Nat × (List D) × Int × Nat × (List D)) (m_67 [.one (.int .i64 l)]) (fun d => ((D.vi (D.at d 0)), (D.ln (D.at d 1)), (D.lc (D.at d 1)), (D.vi (D.at d 2)), (D.ln (D.at d 3)), (D.lc (D.at d 3)))) (fun (r30, k31, c32, r33, k34, c35) => .agg [.one (.int .i64 r30), .list k31 c32, .one (.int .i64 r33), .list k34 c35]) fun (r30, k31, c32, r33, k34, c35) => (pullD (α := Int) (m_71 [.agg [.one (.int .i64 r24), .list k25 c26, .one (.int .i64 r27), .list k28 c29], .agg [.one (.int .i64 r30), .list k31 c32, .one (.int .i64 r33), .list k34 c35]]) (fun d => ((D.vi d))) (fun r36 => .one (.int .i64 r36)) fun r36 => (some (.one (.int .i64 r36)))))))))
theorem cmpForce_M_ok (u n d l : Int) {r : D} (h : cmpForce_M u n d l = some r) : Con 105 [.one (.int .i64 u), .agg [.one (.int .i64 n), .one (.int .i64 d)], .one (.int .i64 l)] r := by
  unfold cmpForce_M at h
  obtain ⟨⟨r0, k1, c2, r3, k4, c5⟩, f1_, h2_⟩ := pullD_elim h
  replace f1_ := m_67_ok f1_
  obtain ⟨⟨r6, k7, c8, r9, k10, c11⟩, f3_, h4_⟩ := pullD_elim h2_
  replace f3_ := m_69_ok f3_
  obtain ⟨⟨r12, k13, c14, r15, k16, c17⟩, f5_, h6_⟩ := pullD_elim h4_
  replace f5_ := m_69_ok f5_
  obtain ⟨⟨r18, k19, c20, r21, k22, c23⟩, f7_, h8_⟩ := pullD_elim h6_
  replace f7_ := m_70_ok f7_
  obtain ⟨⟨r24, k25, c26, r27, k28, c29⟩, f9_, h10_⟩ := pullD_elim h8_
  replace f9_ := m_70_ok f9_
  obtain ⟨⟨r30, k31, c32, r33, k34, c35⟩, f11_, h12_⟩ := pullD_elim h10_
  replace f11_ := m_67_ok f11_
  obtain ⟨r36, f13_, h14_⟩ := pullD_elim h12_
  replace f13_ := m_71_ok f13_
  obtain rfl := Option.some.inj h14_
  exact con_pc (op := true) (I := [105]) (sp := cmpForce_sp) 3000 [] [.agg [.one (.int .i64 r0), .list k1 c2, .one (.int .i64 r3), .list k4 c5], .agg [.one (.int .i64 r6), .list k7 c8, .one (.int .i64 r9), .list k10 c11], .agg [.one (.int .i64 r12), .list k13 c14, .one (.int .i64 r15), .list k16 c17], .agg [.one (.int .i64 r18), .list k19 c20, .one (.int .i64 r21), .list k22 c23], .agg [.one (.int .i64 r24), .list k25 c26, .one (.int .i64 r27), .list k28 c29], .agg [.one (.int .i64 r30), .list k31 c32, .one (.int .i64 r33), .list k34 c35], .one (.int .i64 r36)] [] [k_c f1_, k_c f3_, k_c f5_, k_c f7_, k_c f9_, k_c f11_, k_c f13_] (by kernel_rfl)
def m_105 (ds : List D) : Option D := pullD (α := Int × Int × Int × Int) (some (.tup ds)) (fun d => ((D.vi (D.at d 0)), (D.vi (D.at (D.at d 1) 0)), (D.vi (D.at (D.at d 1) 1)), (D.vi (D.at d 2)))) (fun (u, n, d, l) => .tup [.one (.int .i64 u), .agg [.one (.int .i64 n), .one (.int .i64 d)], .one (.int .i64 l)]) fun (u, n, d, l) => cmpForce_M u n d l
theorem m_105_ok {ds : List D} {r : D} (h : m_105 ds = some r) : Con 105 ds r := by
  unfold m_105 at h
  obtain ⟨⟨u, n, d, l⟩, e0, h0⟩ := pullD_elim h
  obtain rfl := tup_inj e0
  exact cmpForce_M_ok u n d l h0
theorem m_105_eq (u n d l : Int) : m_105 [.one (.int .i64 u), .agg [.one (.int .i64 n), .one (.int .i64 d)], .one (.int .i64 l)] = cmpForce_M u n d l := pullD_some (u, n, d, l) rfl rfl
end
end Go.Proofs.Ytlnolhhoakmdhaa
/- Whole numbers as lists of digits to the base 10^9, and as values in depth. -/
namespace Go.Ev
open Go.RowKit
abbrev lD (l : List Int) : D := .list l.length (l.map iD)
/-- The value of digits, the lowest one first. -/
def vl : List Int → Int
  | [] => 0
  | d :: l => d + (1000000000 : Int) * vl l
/-- The digits of a number. -/
def dg (n : Nat) : List Int := if n = 0 then [] else ((n % 1000000000 : Nat) : Int) :: dg (n / 1000000000)
termination_by n
decreasing_by omega
def Dig (l : List Int) : Prop := ∀ d ∈ l, 0 ≤ d ∧ d < (1000000000 : Int)
def Trim (l : List Int) : Prop := ∀ h : l ≠ [], l.getLast h ≠ 0
theorem dg_zero : dg 0 = [] := by unfold dg; simp
theorem dg_pos {n : Nat} (h : 0 < n) : dg n = ((n % 1000000000 : Nat) : Int) :: dg (n / 1000000000) := by
  conv => lhs; unfold dg
  rw [if_neg (by omega)]
theorem vl_append : ∀ a b : List Int, vl (a ++ b) = vl a + (1000000000 : Int) ^ a.length * vl b
  | [], b => by simp [vl]
  | x :: a, b => by
    simp only [List.cons_append, vl, vl_append a b, List.length_cons, Int.pow_succ]
    rw [Int.mul_add, Int.add_assoc, Int.mul_comm ((1000000000 : Int) ^ a.length) (1000000000 : Int), Int.mul_assoc]
theorem Dig.cons {d : Int} {l : List Int} (h : Dig (d :: l)) : (0 ≤ d ∧ d < (1000000000 : Int)) ∧ Dig l := ⟨h d List.mem_cons_self, fun x hx => h x (List.mem_cons_of_mem _ hx)⟩
theorem Dig.nil : Dig [] := fun _ h => by cases h
theorem Dig.append {a b : List Int} (ha : Dig a) (hb : Dig b) : Dig (a ++ b) := fun x hx => by
  rcases List.mem_append.1 hx with h | h
  · exact ha x h
  · exact hb x h
theorem Dig.one {d : Int} (h0 : 0 ≤ d) (h1 : d < (1000000000 : Int)) : Dig [d] := fun x hx => by simp at hx; subst hx; exact ⟨h0, h1⟩
theorem Dig.take {l : List Int} (h : Dig l) (n : Nat) : Dig (l.take n) := fun x hx => h x (List.mem_of_mem_take hx)
theorem Dig.drop {l : List Int} (h : Dig l) (n : Nat) : Dig (l.drop n) := fun x hx => h x (List.mem_of_mem_drop hx)
theorem vl_nonneg : ∀ {l : List Int}, Dig l → 0 ≤ vl l
  | [], _ => Int.le_refl _
  | d :: l, h => by
    have := vl_nonneg h.cons.2
    have := h.cons.1
    simp only [vl]; omega
theorem vl_lt : ∀ {l : List Int}, Dig l → vl l < (1000000000 : Int) ^ l.length
  | [], _ => by simp [vl]
  | d :: l, h => by
    have h1 := vl_lt h.cons.2
    have := h.cons.1
    simp only [vl, List.length_cons, Int.pow_succ]
    rw [Int.mul_comm ((1000000000 : Int) ^ l.length) (1000000000 : Int)]
    omega
theorem dg_dig (n : Nat) : Dig (dg n) := by
  induction n using Nat.strongRecOn with
  | ind n ih =>
    rcases Nat.eq_zero_or_pos n with h | h
    · subst h; rw [dg_zero]; exact Dig.nil
    · rw [dg_pos h]
      intro x hx
      rcases List.mem_cons.1 hx with rfl | hx
      · have := Nat.mod_lt n (show 0 < 1000000000 by decide); show 0 ≤ _ ∧ _ < (1000000000 : Int); omega
      · exact ih (n / 1000000000) (by omega) x hx
theorem vl_dg (n : Nat) : vl (dg n) = n := by
  induction n using Nat.strongRecOn with
  | ind n ih =>
    rcases Nat.eq_zero_or_pos n with h | h
    · subst h; rw [dg_zero]; rfl
    · rw [dg_pos h, vl, ih (n / 1000000000) (by omega)]
      show _ + (1000000000 : Int) * _ = _
      omega
theorem dg_ne {n : Nat} (h : 0 < n) : dg n ≠ [] := by rw [dg_pos h]; simp
theorem Trim.cons {d : Int} {l : List Int} (h : Trim (d :: l)) : Trim l := fun hl => by
  have := h (by simp)
  rwa [List.getLast_cons hl] at this
/-- Digits without zeros at the end are those of their value. -/
theorem dg_vl : ∀ {l : List Int}, Dig l → Trim l → l = dg (vl l).toNat
  | [], _, _ => by simp [vl, dg_zero]
  | d :: l, h, t => by
    have hd := h.cons.1
    have hl := vl_nonneg h.cons.2
    have ih := dg_vl h.cons.2 t.cons
    have hpos : 0 < (vl (d :: l)).toNat := by
      simp only [vl]
      cases l with
      | nil =>
        have := t (by simp)
        simp only [List.getLast_singleton] at this
        simp only [vl]; omega
      | cons e l =>
        have : vl (e :: l) ≠ 0 := fun h0 => by rw [h0] at ih; simp [dg_zero] at ih
        have h2 : (1000000000 : Int) * vl (e :: l) ≥ (1000000000 : Int) := by
          have : 1 ≤ vl (e :: l) := by omega
          have := Int.mul_le_mul_of_nonneg_left this (show (0 : Int) ≤ (1000000000 : Int) by decide)
          omega
        have : (1000000000 : Int) = 1000000000 := rfl
        omega
    rw [dg_pos hpos]
    simp only [vl]
    congr 1
    · show d = _
      have : (d + (1000000000 : Int) * vl l).toNat % 1000000000 = d.toNat := by
        show (d + 1000000000 * vl l).toNat % 1000000000 = d.toNat
        have : d < 1000000000 := hd.2
        omega
      rw [this]; omega
    · have : (d + (1000000000 : Int) * vl l).toNat / 1000000000 = (vl l).toNat := by
        show (d + 1000000000 * vl l).toNat / 1000000000 = (vl l).toNat
        have : d < 1000000000 := hd.2
        omega
      rw [this]; exact ih
/-- How many digits are kept where zeros at the end are cut off. -/
def keep : List Int → Nat
  | [] => 0
  | d :: l => if keep l = 0 ∧ d = 0 then 0 else keep l + 1
theorem keep_le : ∀ l : List Int, keep l ≤ l.length
  | [] => Nat.le_refl _
  | d :: l => by
    have := keep_le l
    unfold keep
    split
    · exact Nat.zero_le _
    · simp only [List.length_cons]; omega
theorem keep_zero : ∀ {l : List Int} {i : Nat} {d : Int}, keep l ≤ i → l[i]? = some d → d = 0
  | x :: l, i, d, h, hd => by
    unfold keep at h
    cases i with
    | zero =>
      simp only [List.getElem?_cons_zero, Option.some.injEq] at hd
      split at h
      · rename_i hk; rw [← hd]; exact hk.2
      · omega
    | succ i =>
      simp only [List.getElem?_cons_succ] at hd
      refine keep_zero ?_ hd
      split at h
      · rename_i hk; omega
      · omega
theorem keep_last : ∀ {l : List Int}, 0 < keep l → ∃ d, l[keep l - 1]? = some d ∧ d ≠ 0
  | x :: l, h => by
    unfold keep at h ⊢
    split at h
    · omega
    · rename_i hk
      rw [if_neg hk]
      simp only [Nat.add_sub_cancel]
      rcases Nat.eq_zero_or_pos (keep l) with h0 | h0
      · rw [h0]
        exact ⟨x, rfl, fun hx => hk ⟨h0, hx⟩⟩
      · obtain ⟨d, h1, h2⟩ := keep_last h0
        refine ⟨d, ?_, h2⟩
        rw [show keep l = keep l - 1 + 1 by omega, List.getElem?_cons_succ]
        exact h1
theorem vl_keep : ∀ l : List Int, vl (l.take (keep l)) = vl l
  | [] => rfl
  | d :: l => by
    have ih := vl_keep l
    unfold keep
    split
    · rename_i h
      rw [h.1] at ih
      simp only [List.take_zero, vl] at ih ⊢
      rw [← ih, h.2]; omega
    · simp only [List.take_succ_cons, vl, ih]
theorem trim_keep (l : List Int) : Trim (l.take (keep l)) := by
  intro h
  have hk : 0 < keep l := by
    rcases Nat.eq_zero_or_pos (keep l) with h0 | h0
    · rw [h0] at h; simp at h
    · exact h0
  obtain ⟨d, h1, h2⟩ := keep_last hk
  have hlen : (l.take (keep l)).length = keep l := by rw [List.length_take]; have := keep_le l; omega
  have : (l.take (keep l)).getLast h = d := by
    rw [List.getLast_eq_getElem]
    have h3 : (l.take (keep l))[keep l - 1]? = some d := by rw [List.getElem?_take, if_pos (by omega)]; exact h1
    have h4 := List.getElem?_eq_some_iff.1 h3
    obtain ⟨h5, h6⟩ := h4
    simp only [hlen]
    exact h6
  rw [this]; exact h2
theorem take_keep {l : List Int} (h : Dig l) : l.take (keep l) = dg (vl l).toNat := by
  have := dg_vl (h.take (keep l)) (trim_keep l)
  rwa [vl_keep] at this
/-- A number of any size, as a value in depth. -/
def eD (z : Int) : List D := [iD z.sign, lD (dg z.natAbs)]
abbrev wD (z : Int) : D := .agg (eD z)
/-- How many digits. -/
abbrev nd (z : Int) : Nat := (dg z.natAbs).length
theorem dg_len_le {n k : Nat} (h : n < 1000000000 ^ k) : (dg n).length ≤ k := by
  induction k generalizing n with
  | zero => simp at h; subst h; simp [dg_zero]
  | succ k ih =>
    rcases Nat.eq_zero_or_pos n with h0 | h0
    · subst h0; simp [dg_zero]
    · rw [dg_pos h0, List.length_cons]
      have := ih (n := n / 1000000000) (by rw [Nat.pow_succ] at h; exact Nat.div_lt_of_lt_mul (by rw [Nat.mul_comm]; exact h))
      omega
theorem lt_of_dg_len (n : Nat) : n < 1000000000 ^ (dg n).length := by
  have h := vl_lt (dg_dig n)
  rw [vl_dg] at h
  have : ((1000000000 : Int) ^ (dg n).length) = ((1000000000 ^ (dg n).length : Nat) : Int) := by simp
  rw [this] at h
  exact Int.ofNat_lt.1 h
theorem dg_low {n : Nat} (h : 0 < n) : 1000000000 ^ ((dg n).length - 1) ≤ n := by
  induction n using Nat.strongRecOn with
  | ind n ih =>
    rw [dg_pos h, List.length_cons, Nat.add_sub_cancel]
    rcases Nat.eq_zero_or_pos (n / 1000000000) with h0 | h0
    · rw [h0, dg_zero]; exact h
    · have h1 := ih (n / 1000000000) (by omega) h0
      have h2 : (dg (n / 1000000000)).length ≠ 0 := fun h3 => dg_ne h0 (List.length_eq_zero_iff.1 h3)
      rw [show (dg (n / 1000000000)).length = (dg (n / 1000000000)).length - 1 + 1 by omega, Nat.pow_succ]
      have := Nat.mul_le_mul_right 1000000000 h1
      omega
theorem vl_take_succ (a : List Int) (i : Nat) : vl (a.take (i + 1)) = vl (a.take i) + (1000000000 : Int) ^ i * a[i]?.getD 0 := by
  by_cases h : i < a.length
  · rw [List.take_succ_eq_append_getElem h, vl_append, List.getElem?_eq_getElem h, List.length_take, Nat.min_eq_left (by omega)]
    simp [vl]
  · rw [List.take_of_length_le (by omega), List.take_of_length_le (by omega), List.getElem?_eq_none (by omega)]
    simp
theorem Dig.at {a : List Int} (h : Dig a) (i : Nat) : 0 ≤ a[i]?.getD 0 ∧ a[i]?.getD 0 < (1000000000 : Int) := by
  by_cases hi : i < a.length
  · rw [List.getElem?_eq_getElem hi]; exact h _ (List.getElem_mem hi)
  · rw [List.getElem?_eq_none (by omega)]; decide
theorem powP (n : Nat) : (0 : Int) < (1000000000 : Int) ^ n := Int.pow_pos (by decide)
theorem pow_le {a b : Nat} (h : a ≤ b) : (1000000000 : Int) ^ a ≤ (1000000000 : Int) ^ b := by
  have : ((1000000000 ^ a : Nat) : Int) ≤ ((1000000000 ^ b : Nat) : Int) := Int.ofNat_le.2 (Nat.pow_le_pow_right (by decide) h)
  simpa using this
theorem lt_of_top {P a b x y : Int} (ha : a < P) (hb : 0 ≤ b) (h : x < y) (hP : 0 < P) : a + P * x < b + P * y := by
  have : P * (x + 1) ≤ P * y := Int.mul_le_mul_of_nonneg_left (by omega) (by omega)
  rw [Int.mul_add, Int.mul_one] at this
  omega
theorem pullI {β : Type} (x : Int) (k : Int → Option β) : pullD (some (.one (.int .i64 x))) (fun d => D.vi d) (fun r => .one (.int .i64 r)) k = k x := pullD_some x rfl rfl
theorem pullB {β : Type} (x : Bool) (k : Bool → Option β) : pullD (some (.one (.bool x))) (fun d => D.vb d) (fun r => .one (.bool r)) k = k x := pullD_some x rfl rfl
/-- What grows from nothing: by which head, what it is. -/
def gq (l : List Int) : Nat := if l = [] then 1 else 0
def gd (l : List Int) : D := if l = [] then .one (.tuple #[]) else lD l
def gout (l : List Int) : Rd := .out (gq l) [gd l]
theorem cellD_int (x : Int) : ∀ u, u ∈ [dCell (.int .i64 x)] → cellD u := by
  intro u hu
  simp at hu
  subst hu
  rfl
theorem grow_list (l : List Int) (x : Int) : D.list (l.length + (0 + 1)) (List.append (List.take (l.length * 1) (l.map iD)) [dCell (.int .i64 x)]) = lD (l ++ [x]) := by
  have : List.take (l.length * 1) (l.map iD) = l.map iD := List.take_of_length_le (by simp)
  rw [this]
  show D.list (l.length + 1) (l.map iD ++ [iD x]) = _
  simp [lD]
theorem vl_set : ∀ (l : List Int) (p : Nat) (x : Int), p < l.length → vl (l.set p x) = vl l + (1000000000 : Int) ^ p * (x - l[p]?.getD 0)
  | [], p, x, h => absurd h (Nat.not_lt_zero _)
  | d :: l, 0, x, h => by
    simp only [List.set_cons_zero, vl, List.getElem?_cons_zero, Option.getD_some, Int.pow_zero]
    omega
  | d :: l, p + 1, x, h => by
    have := vl_set l p x (by simpa using h)
    simp only [List.set_cons_succ, vl, this, List.getElem?_cons_succ, Int.pow_succ]
    grind
theorem Dig.set {l : List Int} (h : Dig l) (p : Nat) {x : Int} (h0 : 0 ≤ x) (h1 : x < 1000000000) : Dig (l.set p x) := fun y hy => by
  rcases List.mem_or_eq_of_mem_set hy with hy | rfl
  · exact h y hy
  · exact ⟨h0, h1⟩
theorem set_list (o : List Int) (p : Nat) (x : Int) (h : p < o.length) : List.append (List.take (0 + p * 1) (o.map iD) ++ [dCell (.int .i64 x)]) (List.drop (0 + p * 1 + [dCell (.int .i64 x)].length) (o.map iD)) = (o.set p x).map iD := by
  show List.take (0 + p * 1) (o.map iD) ++ [iD x] ++ List.drop (0 + p * 1 + 1) (o.map iD) = _
  rw [Nat.zero_add, Nat.mul_one, List.map_set, List.set_eq_take_append_cons_drop, if_pos (by simpa using h)]
  simp
theorem zeros_list (n : Nat) : List.map dCell (List.replicate n (Value.int .i64 (0 : Int)).cells.toList).flatten = (List.replicate n (0 : Int)).map iD := by
  induction n with
  | zero => rfl
  | succ n ih =>
    rw [List.replicate_succ, List.flatten_cons, List.map_append, ih, List.replicate_succ, List.map_cons]
    rfl
theorem vl_zeros (n : Nat) : vl (List.replicate n 0) = 0 := by
  induction n with
  | zero => rfl
  | succ n ih => rw [List.replicate_succ, vl, ih]; rfl
theorem gq_app (l : List Int) (x : Int) : gq (l ++ [x]) = 0 := by simp [gq]
theorem gd_app (l : List Int) (x : Int) : gd (l ++ [x]) = lD (l ++ [x]) := by simp [gd]
theorem tmodB {x : Int} (h : 0 ≤ x) : x.tmod (1000000000 : Int) = x % (1000000000 : Int) := Int.tmod_eq_emod_of_nonneg h
theorem tdivB {x : Int} (h : 0 ≤ x) : x.tdiv (1000000000 : Int) = x / (1000000000 : Int) := Int.tdiv_eq_ediv_of_nonneg h
theorem readW {l : List Int} {i : Nat} {v : Int} (h : l[i]? = some v) : readD (l.map iD) ((i : Int).toNat * 1) 1 false = some (iD v) := by
  unfold readD
  simp [h]
end Go.Ev
/- Numbers of any size: digits. -/
namespace Go.Proofs.Ytlnolhhoakmdhaa
open Go.Ev Go.RowKit
set_option maxRecDepth 100000
theorem wrapI (x : Int) (h1 : -9223372036854775808 ≤ x) (h2 : x < 9223372036854775808) : IntKind.i64.wrap x = x := by
  unfold IntKind.wrap
  show (if (true && _) then _ else _) = _
  simp only [Bool.true_and, decide_eq_true_eq]
  show (if x % 18446744073709551616 ≥ 9223372036854775808 then x % 18446744073709551616 - 18446744073709551616 else x % 18446744073709551616) = x
  split <;> omega
theorem trimmed_eq (l : List Int) (hl : l.length ≤ 1000000000000) : m_155 [lD l] = some (lD (l.take (keep l))) := by
  rw [m_155_eq]
  unfold w_trimmed_M
  have hk := keep_le l
  have h1 : runR (w_trimmed_L2_S l.length (l.map iD)) (.next 0 [iD (l.length : Int)]) = runR (w_trimmed_L2_S l.length (l.map iD)) (.next 0 [iD (keep l : Int)]) := by
    have := runR_scan (S := w_trimmed_L2_S l.length (l.map iD)) (fun _ => 0) (fun j => [iD ((l.length - j : Nat) : Int)]) (Nat.zero_le (l.length - keep l)) (fun j _ hj => by
      show w_trimmed_L2_S0 _ _ _ = _
      unfold w_trimmed_L2_S0
      rw [pullD_some ((l.length - j : Nat) : Int) (by rfl) (by rfl)]
      have hi : l.length - j - 1 < l.length := by omega
      have e : IntKind.i64.wrap (((l.length - j : Nat) : Int) - 1) = ((l.length - (j + 1) : Nat) : Int) := by rw [wrapI _ (by omega) (by omega)]; omega
      have h0 : l[l.length - (j + 1)]? = some 0 := by
        have h3 : l.length - (j + 1) < l.length := by omega
        rw [List.getElem?_eq_getElem h3]
        rw [keep_zero (i := l.length - (j + 1)) (by omega) (List.getElem?_eq_getElem h3)]
      rw [if_pos (by omega), e, guardP_pos (by omega), readW h0, pullD_some (0 : Int) (by rfl) (by rfl), if_pos rfl])
    simp only [Nat.sub_zero] at this
    rw [this, show l.length - (l.length - keep l) = keep l by omega]
  have h2 : runR (w_trimmed_L2_S l.length (l.map iD)) (.next 0 [iD (keep l : Int)]) = some (.out 0 [iD (keep l : Int)]) := runR_exit (by
    show w_trimmed_L2_S0 _ _ _ = _
    unfold w_trimmed_L2_S0
    rw [pullD_some (keep l : Int) (by rfl) (by rfl)]
    rcases Nat.eq_zero_or_pos (keep l) with h0 | h0
    · rw [if_neg (by omega)]
    · obtain ⟨d, hd, hne⟩ := keep_last h0
      have e : IntKind.i64.wrap ((keep l : Int) - 1) = ((keep l - 1 : Nat) : Int) := by rw [wrapI _ (by omega) (by omega)]; omega
      rw [if_pos (by omega), e, guardP_pos (by omega), readW hd, pullD_some d (by rfl) (by rfl), if_neg hne])
  rw [bindL_some (h1.trans h2), if_pos rfl, pullD_some (keep l : Int) (by rfl) (by rfl)]
  rw [guardP_pos (by refine ⟨by omega, by omega, by omega, by simp⟩)]
  have hlen : (l.take (keep l)).length = keep l := by rw [List.length_take]; omega
  simp only [lD, hlen, Int.toNat_natCast, Int.toNat_zero, Nat.sub_zero, Nat.zero_mul, Nat.mul_one, List.drop_zero, List.map_take]
theorem wideOf_eq {s : Int} {l : List Int} (hl : l.length ≤ 1000000000000) (hd : Dig l) (hs : s = 1 ∨ s = -1 ∨ vl l = 0) : m_145 [iD s, lD l] = some (wD (s * vl l)) := by
  rw [m_145_eq]
  unfold w_wideOf_M
  rw [show [D.list l.length (l.map iD)] = [lD l] from rfl, trimmed_eq l hl, take_keep hd, pullD_some ((dg (vl l).toNat).length, (dg (vl l).toNat).map iD) (by rfl) (by rfl)]
  dsimp only
  have hv := vl_nonneg hd
  rcases Int.lt_or_eq_of_le hv with h | h
  · have hne := dg_ne (n := (vl l).toNat) (by omega)
    have hlen : (dg (vl l).toNat).length ≠ 0 := fun h0 => hne (List.length_eq_zero_iff.1 h0)
    rw [if_neg (by omega)]
    have hs : s = 1 ∨ s = -1 := by omega
    have e1 : (s * vl l).natAbs = (vl l).toNat := by rcases hs with rfl | rfl <;> omega
    have e2 : (s * vl l).sign = s := by
      rcases hs with rfl | rfl
      · rw [Int.one_mul]; exact Int.sign_eq_one_of_pos h
      · rw [Int.neg_mul, Int.one_mul, Int.sign_neg, Int.sign_eq_one_of_pos h]
    simp only [wD, eD, e1, e2]
  · rw [← h]
    simp only [Int.toNat_zero, dg_zero, List.length_nil, Int.mul_zero, wD, eD, Int.natAbs_zero, Int.sign_zero, List.map_nil, Int.natCast_zero, ↓reduceIte]
    rfl
theorem digit_eq (l : List Int) (i : Nat) : m_160 [lD l, iD (i : Int)] = some (iD (l[i]?.getD 0)) := by
  rw [m_160_eq]
  unfold w_digit_M
  by_cases h : i < l.length
  · rw [if_pos (by omega), guardP_pos (by omega), readW (List.getElem?_eq_getElem h), pullD_some l[i] (by rfl) (by rfl), List.getElem?_eq_getElem h]; rfl
  · rw [if_neg (by omega), List.getElem?_eq_none (by omega)]; rfl
theorem neg_eq (z : Int) : m_147 [wD z] = some (wD (-z)) := by
  unfold wD eD
  rw [m_147_eq]
  unfold w_neg_M
  have h : IntKind.i64.wrap (0 - z.sign) = (-z).sign := by
    rw [Int.sign_neg, Int.zero_sub]
    have h1 : -1 ≤ z.sign ∧ z.sign ≤ 1 := by
      rcases Int.lt_trichotomy z 0 with h | h | h
      · rw [Int.sign_eq_neg_one_of_neg h]; omega
      · rw [h]; decide
      · rw [Int.sign_eq_one_of_pos h]; omega
    exact wrapI _ (by omega) (by omega)
  simp only [h, Int.natAbs_neg]
theorem sign_eq (z : Int) : m_146 [wD z] = some (iD z.sign) := by
  unfold wD eD
  rw [m_146_eq]
  unfold w_sign_M
  rfl
end Go.Proofs.Ytlnolhhoakmdhaa
/- Numbers of any size: of numbers, compared, added, subtracted. -/
namespace Go.Proofs.Ytlnolhhoakmdhaa
open Go.Ev Go.RowKit
set_option maxRecDepth 100000
theorem of_step (n : Int) (m : Nat) (hm : 0 < m) (hm2 : m < 9223372036854775808) (l : List Int) (hl : l.length ≤ 1000000000) (S : Rd → Option Rd) (h0 : ∀ ds, S (.next 0 ds) = w_of_L5_S0 n ds) (h1 : ∀ ds, S (.next 1 ds) = w_of_L5_S1 n ds) :
    S (.next (gq l) [iD (m : Int), gd l]) = some (.next 0 [iD ((m / 1000000000 : Nat) : Int), lD (l ++ [((m % 1000000000 : Nat) : Int)])]) := by
  have e1 : (m : Int).tmod 1000000000 = ((m % 1000000000 : Nat) : Int) := by rw [tmodB (by omega)]; omega
  have e2 : IntKind.i64.wrap ((m : Int).tdiv 1000000000) = ((m / 1000000000 : Nat) : Int) := by rw [tdivB (by omega), wrapI _ (by omega) (by omega)]; omega
  by_cases hn : l = []
  · subst hn
    show S (.next 1 _) = _
    rw [h1]
    unfold w_of_L5_S1
    rw [show gd [] = .one (.tuple #[]) from rfl, pullD_some (m : Int) (by rfl) (by rfl), if_pos (by omega), e1, e2]
    rfl
  · have hq : gq l = 0 := if_neg hn
    have hd : gd l = lD l := if_neg hn
    rw [hq, hd, h0]
    unfold w_of_L5_S0
    rw [pullD_some ((m : Int), l.length, l.map iD) (by rfl) (by rfl)]
    dsimp only
    rw [if_pos (by omega), guardP_pos ⟨cellD_int _, by simp, by omega, by omega⟩, e1, e2, grow_list]
theorem of_stop (n : Int) (l : List Int) (S : Rd → Option Rd) (h0 : ∀ ds, S (.next 0 ds) = w_of_L5_S0 n ds) (h1 : ∀ ds, S (.next 1 ds) = w_of_L5_S1 n ds) :
    S (.next (gq l) [iD 0, gd l]) = some (gout l) := by
  by_cases hn : l = []
  · subst hn
    show S (.next 1 _) = _
    rw [h1]
    unfold w_of_L5_S1
    rw [show gd [] = .one (.tuple #[]) from rfl, pullD_some (0 : Int) (by rfl) (by rfl), if_neg (by omega)]
    rfl
  · have hq : gq l = 0 := if_neg hn
    have hd : gd l = lD l := if_neg hn
    unfold gout
    rw [hq, hd, h0]
    unfold w_of_L5_S0
    rw [pullD_some ((0 : Int), l.length, l.map iD) (by rfl) (by rfl)]
    dsimp only
    rw [if_neg (by omega)]
theorem of_go (n : Int) (S : Rd → Option Rd) (h0 : ∀ ds, S (.next 0 ds) = w_of_L5_S0 n ds) (h1 : ∀ ds, S (.next 1 ds) = w_of_L5_S1 n ds) : ∀ (m : Nat), m < 9223372036854775808 → ∀ l : List Int, l.length + (dg m).length ≤ 1000000000 →
    runR S (.next (gq l) [iD (m : Int), gd l]) = some (gout (l ++ dg m)) := by
  intro m
  induction m using Nat.strongRecOn with
  | ind m ih =>
    intro hm l hl
    rcases Nat.eq_zero_or_pos m with h | h
    · subst h
      rw [dg_zero, List.append_nil]
      exact runR_exit (of_stop n l S h0 h1)
    · rw [dg_pos h, List.length_cons] at hl
      rw [runR_next (of_step n m h hm l (by omega) S h0 h1)]
      have := ih (m / 1000000000) (by omega) (by omega) (l ++ [((m % 1000000000 : Nat) : Int)]) (by rw [List.length_append, List.length_singleton]; omega)
      rw [gq_app, gd_app] at this
      rw [this, dg_pos h, List.append_assoc]
      rfl
theorem of_eq (n : Int) (h1 : -9223372036854775808 < n) (h2 : n < 9223372036854775808) : m_121 [iD n] = some (wD n) := by
  rw [m_121_eq]
  unfold w_of_M
  have hlen : (dg n.natAbs).length ≤ 3 := dg_len_le (by omega)
  have key : ∀ (s : Int) (hs : s = 1 ∨ s = -1), n = s * (n.natAbs : Int) → m_145 [iD s, lD (dg n.natAbs)] = some (wD n) := fun s hs hn => by
    rw [wideOf_eq (by omega) (dg_dig _) (by rcases hs with h | h <;> simp [h]), vl_dg, ← hn]
  by_cases hn : n < 0
  · rw [if_pos hn]
    have e : IntKind.i64.wrap (0 - n) = (n.natAbs : Int) := by rw [wrapI _ (by omega) (by omega)]; omega
    have hg := of_go n (w_of_L5_S n) (fun _ => rfl) (fun _ => rfl) n.natAbs (by omega) [] (by simp only [List.length_nil]; omega)
    rw [List.nil_append] at hg
    rw [e, show Rd.next 1 [.one (.int .i64 (n.natAbs : Int)), .one (.tuple #[])] = Rd.next (gq []) [iD (n.natAbs : Int), gd []] from rfl, bindL_some hg]
    have hne : dg n.natAbs ≠ [] := dg_ne (by omega)
    rw [show gq (dg n.natAbs) = 0 from if_neg hne, show gd (dg n.natAbs) = lD (dg n.natAbs) from if_neg hne, if_pos rfl, pullD_some ((dg n.natAbs).length, (dg n.natAbs).map iD) (by rfl) (by rfl)]
    dsimp only
    rw [guardP_pos (by simp)]
    have k := key (-1) (.inr rfl) (by omega)
    unfold wD eD at k
    rw [k, pullD_some (n.sign, (dg n.natAbs).length, (dg n.natAbs).map iD) (by rfl) (by rfl)]
    rfl
  · rw [if_neg hn]
    have e : n = (n.natAbs : Int) := by omega
    have hg := of_go n (w_of_L5_1_S n) (fun _ => rfl) (fun _ => rfl) n.natAbs (by omega) [] (by simp only [List.length_nil]; omega)
    rw [List.nil_append, ← e] at hg
    rw [show Rd.next 1 [.one (.int .i64 n), .one (.tuple #[])] = Rd.next (gq []) [iD n, gd []] from rfl, bindL_some hg]
    have k := key 1 (.inl rfl) (by omega)
    unfold wD eD at k
    by_cases hne : dg n.natAbs = []
    · rw [hne, show gq [] = 1 from rfl, show gd [] = .one (.tuple #[]) from rfl, if_neg (by decide), if_pos rfl, pullD_some () (by rfl) (by rfl)]
      rw [hne] at k
      have k : m_145 [.one (.int .i64 1), .list 0 []] = some (.agg [iD n.sign, .list 0 []]) := k
      rw [k, pullD_some (n.sign, 0, []) (by rfl) (by rfl)]
      unfold wD eD
      rw [hne]
      rfl
    · rw [show gq (dg n.natAbs) = 0 from if_neg hne, show gd (dg n.natAbs) = lD (dg n.natAbs) from if_neg hne, if_pos rfl, pullD_some ((dg n.natAbs).length, (dg n.natAbs).map iD) (by rfl) (by rfl)]
      dsimp only
      rw [guardP_pos (by simp), k, pullD_some (n.sign, (dg n.natAbs).length, (dg n.natAbs).map iD) (by rfl) (by rfl)]
      rfl
theorem cmp_go (a b : List Int) (ha : Dig a) (hb : Dig b) (hl : a.length = b.length) (hs : a.length ≤ 1000000000000) : ∀ t : Nat, t ≤ a.length →
    runR (w_cmpDigits_L6_S a.length (a.map iD) b.length (b.map iD)) (.next 0 [iD ((t : Int) - 1)]) = some (if vl (a.take t) < vl (b.take t) then .out 1 [iD (-1)] else if vl (b.take t) < vl (a.take t) then .out 1 [iD 1] else .out 0 []) := by
  intro t
  induction t with
  | zero =>
    intro _
    simp only [List.take_zero, Int.lt_irrefl, if_false]
    refine runR_exit ?_
    show w_cmpDigits_L6_S0 _ _ _ _ _ = _
    unfold w_cmpDigits_L6_S0
    rw [pullD_some (((0 : Nat) : Int) - 1) (by rfl) (by rfl), if_neg (by omega)]
  | succ t ih =>
    intro ht
    have h1 : t < a.length := by omega
    have h2 : t < b.length := by omega
    have e : (((t + 1 : Nat) : Int) - 1) = (t : Int) := by omega
    have ea : a[t]?.getD 0 = a[t] := by rw [List.getElem?_eq_getElem h1]; rfl
    have eb : b[t]?.getD 0 = b[t] := by rw [List.getElem?_eq_getElem h2]; rfl
    rw [vl_take_succ, vl_take_succ, ea, eb, e]
    have pa := vl_lt (ha.take t)
    have pb := vl_lt (hb.take t)
    have na := vl_nonneg (ha.take t)
    have nb := vl_nonneg (hb.take t)
    rw [List.length_take, Nat.min_eq_left (by omega)] at pa pb
    have st : w_cmpDigits_L6_S a.length (a.map iD) b.length (b.map iD) (.next 0 [iD (t : Int)]) = some (if a[t] < b[t] then .out 1 [iD (-1)] else if a[t] > b[t] then .out 1 [iD 1] else .next 0 [iD ((t : Int) - 1)]) := by
      show w_cmpDigits_L6_S0 _ _ _ _ _ = _
      unfold w_cmpDigits_L6_S0
      rw [pullD_some (t : Int) (by rfl) (by rfl), if_pos (by omega), guardP_pos (by omega), readW (List.getElem?_eq_getElem h1), pullD_some a[t] (by rfl) (by rfl), guardP_pos (by omega), readW (List.getElem?_eq_getElem h2), pullD_some b[t] (by rfl) (by rfl)]
      by_cases h3 : a[t] < b[t]
      · rw [if_pos h3, if_pos h3]
      · rw [if_neg h3, if_neg h3, pullD_some a[t] (by rfl) (by rfl), pullD_some b[t] (by rfl) (by rfl), wrapI _ (by omega) (by omega)]
        split <;> rfl
    rcases Int.lt_trichotomy a[t] b[t] with h3 | h3 | h3
    · rw [if_pos h3] at st
      rw [runR_exit st, if_pos (lt_of_top pa nb h3 (powP t))]
    · rw [if_neg (by omega), if_neg (by omega)] at st
      rw [runR_next st, ih (by omega), h3]
      simp only [Int.add_lt_add_iff_right]
    · rw [if_neg (by omega), if_pos h3] at st
      have := lt_of_top pb na h3 (powP t)
      rw [runR_exit st, if_neg (by omega), if_pos this]
def sgn3 (a b : Nat) : Int := if a < b then -1 else if b < a then 1 else 0
theorem cmpDigits_eq (a b : Nat) (ha : (dg a).length ≤ 1000000000000) (hb : (dg b).length ≤ 1000000000000) : m_157 [lD (dg a), lD (dg b)] = some (iD (sgn3 a b)) := by
  rw [m_157_eq]
  unfold w_cmpDigits_M
  have big : ∀ a b : Nat, (dg a).length < (dg b).length → a < b := fun a b h => by
    have h1 := lt_of_dg_len a
    have hb0 : 0 < b := by
      rcases Nat.eq_zero_or_pos b with h0 | h0
      · subst h0; rw [dg_zero] at h; simp at h
      · exact h0
    have h2 := dg_low hb0
    have h3 : 1000000000 ^ (dg a).length ≤ 1000000000 ^ ((dg b).length - 1) := Nat.pow_le_pow_right (by decide) (by omega)
    omega
  unfold sgn3
  by_cases hl : (dg a).length = (dg b).length
  · rw [if_neg (by omega)]
    have h := cmp_go (dg a) (dg b) (dg_dig a) (dg_dig b) hl ha (dg a).length (Nat.le_refl _)
    rw [List.take_length, hl, List.take_length, vl_dg, vl_dg] at h
    rw [wrapI _ (by omega) (by omega), hl]
    by_cases h1 : a < b
    · rw [if_pos (by omega)] at h
      rw [bindL_some h, if_pos h1, if_neg (by decide), if_pos rfl, pullD_some (-1 : Int) (by rfl) (by rfl)]
    · by_cases h2 : b < a
      · rw [if_neg (by omega), if_pos (by omega)] at h
        rw [bindL_some h, if_neg h1, if_pos h2, if_neg (by decide), if_pos rfl, pullD_some (1 : Int) (by rfl) (by rfl)]
      · rw [if_neg (by omega), if_neg (by omega)] at h
        rw [bindL_some h, if_neg h1, if_neg h2, if_pos rfl, pullD_some () (by rfl) (by rfl)]
  · rw [if_pos (by omega)]
    rcases Nat.lt_or_ge (dg a).length (dg b).length with h | h
    · rw [if_pos (by omega), if_pos (big a b h)]
    · have := big b a (by omega)
      rw [if_neg (by omega), if_neg (by omega), if_pos this]
end Go.Proofs.Ytlnolhhoakmdhaa
/- Numbers of any size: added, subtracted, compared. -/
namespace Go.Proofs.Ytlnolhhoakmdhaa
open Go.Ev Go.RowKit
set_option maxRecDepth 100000
theorem digit_eq' (l : List Int) (i : Nat) : m_160 [.list l.length (l.map iD), .one (.int .i64 (i : Int))] = some (iD (l[i]?.getD 0)) := digit_eq l i
theorem add_step (a b l : List Int) (ha : Dig a) (hb : Dig b) (c : Int) (i : Nat) (h0 : 0 ≤ c) (h1 : c ≤ 1) (hi : i < a.length ∨ i < b.length ∨ 0 < c) (hl : l.length ≤ 1000000000) (his : i ≤ 1000000000) :
    w_addDigits_L4_S a.length (a.map iD) b.length (b.map iD) (.next (gq l) [gd l, iD c, iD (i : Int)]) = some (.next 0 [lD (l ++ [(a[i]?.getD 0 + b[i]?.getD 0 + c) % 1000000000]), iD ((a[i]?.getD 0 + b[i]?.getD 0 + c) / 1000000000), iD ((i + 1 : Nat) : Int)]) := by
  have pa := ha.at i
  have pb := hb.at i
  have e1 : IntKind.i64.wrap (a[i]?.getD 0 + b[i]?.getD 0) = a[i]?.getD 0 + b[i]?.getD 0 := wrapI _ (by omega) (by omega)
  have e2 : IntKind.i64.wrap (a[i]?.getD 0 + b[i]?.getD 0 + c) = a[i]?.getD 0 + b[i]?.getD 0 + c := wrapI _ (by omega) (by omega)
  generalize hs : a[i]?.getD 0 + b[i]?.getD 0 + c = s at *
  have e3 : s.tmod 1000000000 = s % 1000000000 := tmodB (by omega)
  have e4 : IntKind.i64.wrap (s.tdiv 1000000000) = s / 1000000000 := by rw [tdivB (by omega), wrapI _ (by omega) (by omega)]
  have e5 : IntKind.i64.wrap ((i : Int) + 1) = ((i + 1 : Nat) : Int) := by rw [wrapI _ (by omega) (by omega)]; omega
  by_cases hn : l = []
  · subst hn
    show w_addDigits_L4_S1 _ _ _ _ _ = _
    unfold w_addDigits_L4_S1
    rw [show gd [] = .one (.tuple #[]) from rfl, pullD_some (c, (i : Int)) (by rfl) (by rfl)]
    dsimp only
    rw [digit_eq', digit_eq']
    simp only [pullI]
    rw [e1, hs, e2, e3, e4, e5]
    by_cases h2 : i < a.length
    · rw [if_pos (by omega)]; rfl
    · rw [if_neg (by omega)]
      by_cases h3 : i < b.length
      · rw [if_pos (by omega)]; rfl
      · rw [if_neg (by omega), if_pos (by omega)]; rfl
  · rw [show gq l = 0 from if_neg hn, show gd l = lD l from if_neg hn]
    show w_addDigits_L4_S0 _ _ _ _ _ = _
    unfold w_addDigits_L4_S0
    rw [pullD_some (l.length, l.map iD, c, (i : Int)) (by rfl) (by rfl)]
    dsimp only
    rw [digit_eq', digit_eq']
    simp only [pullI]
    rw [e1, hs, e2, e3, e4, e5, guardP_pos ⟨cellD_int _, by simp, by omega, by omega⟩, grow_list]
    by_cases h2 : i < a.length
    · rw [if_pos (by omega)]
    · rw [if_neg (by omega)]
      by_cases h3 : i < b.length
      · rw [if_pos (by omega)]
      · rw [if_neg (by omega), if_pos (by omega)]
theorem add_stop (a b l : List Int) (i : Nat) (h1 : a.length ≤ i) (h2 : b.length ≤ i) :
    w_addDigits_L4_S a.length (a.map iD) b.length (b.map iD) (.next (gq l) [gd l, iD 0, iD (i : Int)]) = some (gout l) := by
  by_cases hn : l = []
  · subst hn
    show w_addDigits_L4_S1 _ _ _ _ _ = _
    unfold w_addDigits_L4_S1
    rw [show gd [] = .one (.tuple #[]) from rfl, pullD_some ((0 : Int), (i : Int)) (by rfl) (by rfl)]
    dsimp only
    rw [if_neg (by omega), if_neg (by omega), if_neg (by omega)]
    rfl
  · rw [show gq l = 0 from if_neg hn, show gd l = lD l from if_neg hn]
    show w_addDigits_L4_S0 _ _ _ _ _ = _
    unfold w_addDigits_L4_S0 gout
    rw [pullD_some (l.length, l.map iD, (0 : Int), (i : Int)) (by rfl) (by rfl), show gq l = 0 from if_neg hn, show gd l = lD l from if_neg hn]
    dsimp only
    rw [if_neg (by omega), if_neg (by omega), if_neg (by omega)]
theorem add_go (a b : List Int) (ha : Dig a) (hb : Dig b) (m : Nat) (hma : a.length ≤ m) (hmb : b.length ≤ m) (hm : m ≤ 100000000) : ∀ (k : Nat) (l : List Int) (c : Int), m + 1 - l.length ≤ k → Dig l → 0 ≤ c → c ≤ 1 → l.length ≤ m + 1 →
    vl l + (1000000000 : Int) ^ l.length * c = vl (a.take l.length) + vl (b.take l.length) →
    ∃ l', runR (w_addDigits_L4_S a.length (a.map iD) b.length (b.map iD)) (.next (gq l) [gd l, iD c, iD (l.length : Int)]) = some (gout l') ∧ Dig l' ∧ vl l' = vl a + vl b ∧ l'.length ≤ m + 1 := by
  have va := vl_lt ha
  have vb := vl_lt hb
  have pm := pow_le hma
  have pm2 := pow_le hmb
  intro k
  induction k with
  | zero =>
    intro l c hk hl h0 h1 hlm hv
    have hlen : l.length = m + 1 := by omega
    have hc : c = 0 := by
      rw [List.take_of_length_le (by omega), List.take_of_length_le (by omega), hlen, Int.pow_succ] at hv
      have := vl_nonneg hl
      have := powP m
      rcases (show c = 0 ∨ c = 1 by omega) with h | h
      · exact h
      · rw [h] at hv; omega
    subst hc
    refine ⟨l, runR_exit (add_stop a b l l.length (by omega) (by omega)), hl, ?_, by omega⟩
    rw [List.take_of_length_le (by omega), List.take_of_length_le (by omega)] at hv
    omega
  | succ k ih =>
    intro l c hk hl h0 h1 hlm hv
    by_cases hi : l.length < a.length ∨ l.length < b.length ∨ 0 < c
    · have hlm2 : l.length ≤ m := by
        rcases hi with h | h | h
        · omega
        · omega
        · rcases Nat.lt_or_ge m l.length with h2 | h2
          · have hlen : l.length = m + 1 := by omega
            rw [List.take_of_length_le (by omega), List.take_of_length_le (by omega), hlen, Int.pow_succ] at hv
            have := vl_nonneg hl
            have := powP m
            rw [show c = 1 by omega] at hv
            omega
          · omega
      have pa := ha.at l.length
      have pb := hb.at l.length
      have st := add_step a b l ha hb c l.length h0 h1 hi (by omega) (by omega)
      generalize hs : a[l.length]?.getD 0 + b[l.length]?.getD 0 + c = s at *
      obtain ⟨l', q1, q2, q3, q4⟩ := ih (l ++ [s % 1000000000]) (s / 1000000000) (by rw [List.length_append, List.length_singleton]; omega) (hl.append (Dig.one (by omega) (by omega))) (by omega) (by omega) (by rw [List.length_append, List.length_singleton]; omega) (by
        rw [List.length_append, List.length_singleton, vl_take_succ, vl_take_succ, vl_append, Int.pow_succ]
        have e : s = s % 1000000000 + 1000000000 * (s / 1000000000) := by omega
        have e2 : (1000000000 : Int) ^ l.length * s = (1000000000 : Int) ^ l.length * (s % 1000000000) + (1000000000 : Int) ^ l.length * 1000000000 * (s / 1000000000) := by
          rw [Int.mul_assoc, ← Int.mul_add, ← e]
        have e3 : (1000000000 : Int) ^ l.length * s = (1000000000 : Int) ^ l.length * a[l.length]?.getD 0 + (1000000000 : Int) ^ l.length * b[l.length]?.getD 0 + (1000000000 : Int) ^ l.length * c := by
          rw [← hs, Int.mul_add, Int.mul_add]
        simp only [vl, Int.mul_zero, Int.add_zero]
        omega)
      rw [gq_app, gd_app, List.length_append, List.length_singleton] at q1
      exact ⟨l', (runR_next st).trans q1, q2, q3, q4⟩
    · have hc : c = 0 := by omega
      subst hc
      refine ⟨l, runR_exit (add_stop a b l l.length (by omega) (by omega)), hl, ?_, by omega⟩
      rw [List.take_of_length_le (by omega), List.take_of_length_le (by omega)] at hv
      omega
theorem addDigits_eq (a b : List Int) (ha : Dig a) (hb : Dig b) (m : Nat) (hma : a.length ≤ m) (hmb : b.length ≤ m) (hm : m ≤ 100000000) : ∃ l, m_161 [lD a, lD b] = some (lD l) ∧ Dig l ∧ vl l = vl a + vl b ∧ l.length ≤ m + 1 := by
  obtain ⟨l, h1, h2, h3, h4⟩ := add_go a b ha hb m hma hmb hm (m + 1) [] 0 (by simp) Dig.nil (by decide) (by decide) (by simp) (by simp [vl])
  refine ⟨l, ?_, h2, h3, h4⟩
  rw [m_161_eq]
  unfold w_addDigits_M
  have h1 : runR (w_addDigits_L4_S a.length (a.map iD) b.length (b.map iD)) (.next 1 [.one (.tuple #[]), .one (.int .i64 0), .one (.int .i64 0)]) = some (gout l) := h1
  unfold gout at h1
  rw [bindL_some h1]
  by_cases hn : l = []
  · subst hn
    rw [show gq [] = 1 from rfl, show gd [] = .one (.tuple #[]) from rfl, if_neg (by decide), if_pos rfl, pullD_some () (by rfl) (by rfl)]
    rfl
  · rw [show gq l = 0 from if_neg hn, show gd l = lD l from if_neg hn, if_pos rfl, pullD_some (l.length, l.map iD) (by rfl) (by rfl)]
    dsimp only
    rw [guardP_pos (by simp)]
end Go.Proofs.Ytlnolhhoakmdhaa
/- Numbers of any size: subtracted; sums, differences, which is greater. -/
namespace Go.Proofs.Ytlnolhhoakmdhaa
open Go.Ev Go.RowKit
set_option maxRecDepth 100000
theorem sub_step (a b l : List Int) (ha : Dig a) (hb : Dig b) (c : Int) (i : Nat) (h0 : 0 ≤ c) (h1 : c ≤ 1) (hi : i < a.length) (hl : l.length ≤ 1000000000) (his : a.length ≤ 1000000000) (x c' : Int) (hx : x - 1000000000 * c' = a[i]?.getD 0 - b[i]?.getD 0 - c) (hx0 : 0 ≤ x) (hx1 : x < 1000000000) (hc0 : 0 ≤ c') (hc1 : c' ≤ 1) :
    w_subDigits_L4_S a.length (a.map iD) b.length (b.map iD) (.next (gq l) [gd l, iD c, iD (i : Int)]) = some (.next 0 [lD (l ++ [x]), iD c', iD ((i + 1 : Nat) : Int)]) := by
  have pa := ha.at i
  have pb := hb.at i
  have ea : a[i]?.getD 0 = a[i] := by rw [List.getElem?_eq_getElem hi]; rfl
  rw [ea] at pa hx
  have e1 : IntKind.i64.wrap (a[i] - b[i]?.getD 0) = a[i] - b[i]?.getD 0 := wrapI _ (by omega) (by omega)
  have e2 : IntKind.i64.wrap (a[i] - b[i]?.getD 0 - c) = a[i] - b[i]?.getD 0 - c := wrapI _ (by omega) (by omega)
  generalize hs : a[i] - b[i]?.getD 0 - c = s at *
  have e3 : IntKind.i64.wrap (s + 1000000000) = s + 1000000000 := wrapI _ (by omega) (by omega)
  have e5 : IntKind.i64.wrap ((i : Int) + 1) = ((i + 1 : Nat) : Int) := by rw [wrapI _ (by omega) (by omega)]; omega
  by_cases hn : l = []
  · subst hn
    show w_subDigits_L4_S1 _ _ _ _ _ = _
    unfold w_subDigits_L4_S1
    rw [show gd [] = .one (.tuple #[]) from rfl, pullD_some (c, (i : Int)) (by rfl) (by rfl)]
    dsimp only
    rw [if_pos (by omega), guardP_pos (by omega), readW (List.getElem?_eq_getElem hi), digit_eq']
    simp only [pullI]
    rw [e1, hs, e2, e3, e5]
    by_cases h2 : s < 0
    · rw [if_pos h2, show x = s + 1000000000 by omega, show c' = 1 by omega]; rfl
    · rw [if_neg h2, show x = s by omega, show c' = 0 by omega]; rfl
  · rw [show gq l = 0 from if_neg hn, show gd l = lD l from if_neg hn]
    show w_subDigits_L4_S0 _ _ _ _ _ = _
    unfold w_subDigits_L4_S0
    rw [pullD_some (l.length, l.map iD, c, (i : Int)) (by rfl) (by rfl)]
    dsimp only
    rw [if_pos (by omega), guardP_pos (by omega), readW (List.getElem?_eq_getElem hi), digit_eq']
    simp only [pullI]
    rw [e1, hs, e2, e3, e5]
    by_cases h2 : s < 0
    · rw [if_pos h2, guardP_pos ⟨cellD_int _, by simp, by omega, by omega⟩, grow_list, show x = s + 1000000000 by omega, show c' = 1 by omega]
    · rw [if_neg h2, guardP_pos ⟨cellD_int _, by simp, by omega, by omega⟩, grow_list, show x = s by omega, show c' = 0 by omega]
theorem sub_stop (a b l : List Int) (c : Int) (i : Nat) (h1 : a.length ≤ i) :
    w_subDigits_L4_S a.length (a.map iD) b.length (b.map iD) (.next (gq l) [gd l, iD c, iD (i : Int)]) = some (gout l) := by
  by_cases hn : l = []
  · subst hn
    show w_subDigits_L4_S1 _ _ _ _ _ = _
    unfold w_subDigits_L4_S1
    rw [show gd [] = .one (.tuple #[]) from rfl, pullD_some (c, (i : Int)) (by rfl) (by rfl)]
    dsimp only
    rw [if_neg (by omega)]
    rfl
  · rw [show gq l = 0 from if_neg hn, show gd l = lD l from if_neg hn]
    show w_subDigits_L4_S0 _ _ _ _ _ = _
    unfold w_subDigits_L4_S0 gout
    rw [pullD_some (l.length, l.map iD, c, (i : Int)) (by rfl) (by rfl), show gq l = 0 from if_neg hn, show gd l = lD l from if_neg hn]
    dsimp only
    rw [if_neg (by omega)]
theorem sub_go (a b : List Int) (ha : Dig a) (hb : Dig b) (hm : a.length ≤ 100000000) : ∀ (k : Nat) (l : List Int) (c : Int), a.length - l.length ≤ k → Dig l → 0 ≤ c → c ≤ 1 → l.length ≤ a.length →
    vl l - (1000000000 : Int) ^ l.length * c = vl (a.take l.length) - vl (b.take l.length) →
    ∃ l' c', runR (w_subDigits_L4_S a.length (a.map iD) b.length (b.map iD)) (.next (gq l) [gd l, iD c, iD (l.length : Int)]) = some (gout l') ∧ Dig l' ∧ 0 ≤ c' ∧ c' ≤ 1 ∧ l'.length = a.length ∧ vl l' - (1000000000 : Int) ^ a.length * c' = vl a - vl (b.take a.length) := by
  intro k
  induction k with
  | zero =>
    intro l c hk hl h0 h1 hlm hv
    have hlen : l.length = a.length := by omega
    refine ⟨l, c, runR_exit (sub_stop a b l c l.length (by omega)), hl, h0, h1, hlen, ?_⟩
    rw [hlen, List.take_length] at hv
    exact hv
  | succ k ih =>
    intro l c hk hl h0 h1 hlm hv
    by_cases hi : l.length < a.length
    · have pa := ha.at l.length
      have pb := hb.at l.length
      obtain ⟨x, c', hx, hx0, hx1, hc0, hc1⟩ : ∃ x c' : Int, x - 1000000000 * c' = a[l.length]?.getD 0 - b[l.length]?.getD 0 - c ∧ 0 ≤ x ∧ x < 1000000000 ∧ 0 ≤ c' ∧ c' ≤ 1 := by
        by_cases h2 : a[l.length]?.getD 0 - b[l.length]?.getD 0 - c < 0
        · exact ⟨a[l.length]?.getD 0 - b[l.length]?.getD 0 - c + 1000000000, 1, by omega, by omega, by omega, by omega, by omega⟩
        · exact ⟨a[l.length]?.getD 0 - b[l.length]?.getD 0 - c, 0, by omega, by omega, by omega, by omega, by omega⟩
      have st := sub_step a b l ha hb c l.length h0 h1 hi (by omega) (by omega) x c' hx hx0 hx1 hc0 hc1
      obtain ⟨l', c2, q1, q2, q3, q4, q5, q6⟩ := ih (l ++ [x]) c' (by rw [List.length_append, List.length_singleton]; omega) (hl.append (Dig.one hx0 hx1)) hc0 hc1 (by rw [List.length_append, List.length_singleton]; omega) (by
        rw [List.length_append, List.length_singleton, vl_take_succ, vl_take_succ, vl_append, Int.pow_succ]
        have e2 : (1000000000 : Int) ^ l.length * x - (1000000000 : Int) ^ l.length * 1000000000 * c' = (1000000000 : Int) ^ l.length * a[l.length]?.getD 0 - (1000000000 : Int) ^ l.length * b[l.length]?.getD 0 - (1000000000 : Int) ^ l.length * c := by
          rw [Int.mul_assoc, ← Int.mul_sub, hx, Int.mul_sub, Int.mul_sub]
        simp only [vl, Int.mul_zero, Int.add_zero]
        omega)
      rw [gq_app, gd_app, List.length_append, List.length_singleton] at q1
      exact ⟨l', c2, (runR_next st).trans q1, q2, q3, q4, q5, q6⟩
    · have hlen : l.length = a.length := by omega
      refine ⟨l, c, runR_exit (sub_stop a b l c l.length (by omega)), hl, h0, h1, hlen, ?_⟩
      rw [hlen, List.take_length] at hv
      exact hv
theorem dg_len_mono {a b : Nat} (h : a ≤ b) : (dg a).length ≤ (dg b).length := dg_len_le (Nat.lt_of_le_of_lt h (lt_of_dg_len b))
theorem subDigits_eq (a b : Nat) (h : b ≤ a) (hm : (dg a).length ≤ 100000000) : m_158 [lD (dg a), lD (dg b)] = some (lD (dg (a - b))) := by
  have hlen := dg_len_mono h
  obtain ⟨l, c, h1, h2, h3, h4, h5, h6⟩ := sub_go (dg a) (dg b) (dg_dig a) (dg_dig b) hm (dg a).length [] 0 (by simp) Dig.nil (by decide) (by decide) (by simp) (by simp [vl])
  rw [List.take_of_length_le hlen, vl_dg, vl_dg] at h6
  have hv := vl_lt h2
  have hv0 := vl_nonneg h2
  rw [h5] at hv
  have hc : c = 0 := by
    rcases (show c = 0 ∨ c = 1 by omega) with h | h
    · exact h
    · rw [h] at h6; omega
  subst hc
  have e : (vl l).toNat = a - b := by omega
  have ht : m_155 [lD l] = some (lD (dg (a - b))) := by
    rw [trimmed_eq l (by omega), take_keep h2, e]
  rw [m_158_eq]
  unfold w_subDigits_M
  have h1 : runR (w_subDigits_L4_S (dg a).length ((dg a).map iD) (dg b).length ((dg b).map iD)) (.next 1 [.one (.tuple #[]), .one (.int .i64 0), .one (.int .i64 0)]) = some (gout l) := h1
  unfold gout at h1
  rw [bindL_some h1]
  by_cases hn : l = []
  · subst hn
    rw [show gq [] = 1 from rfl, show gd [] = .one (.tuple #[]) from rfl, if_neg (by decide), if_pos rfl, pullD_some () (by rfl) (by rfl)]
    have ht : m_155 [.list 0 []] = some (lD (dg (a - b))) := ht
    rw [ht, pullD_some ((dg (a - b)).length, (dg (a - b)).map iD) (by rfl) (by rfl)]
  · rw [show gq l = 0 from if_neg hn, show gd l = lD l from if_neg hn, if_pos rfl, pullD_some (l.length, l.map iD) (by rfl) (by rfl)]
    dsimp only
    rw [guardP_pos (by simp), show [D.list l.length (l.map iD)] = [lD l] from rfl, ht, pullD_some ((dg (a - b)).length, (dg (a - b)).map iD) (by rfl) (by rfl)]
theorem sign_cases (z : Int) : (z < 0 ∧ z.sign = -1 ∧ z = -(z.natAbs : Int)) ∨ (z = 0 ∧ z.sign = 0 ∧ z.natAbs = 0) ∨ (0 < z ∧ z.sign = 1 ∧ z = (z.natAbs : Int)) := by
  rcases Int.lt_trichotomy z 0 with h | h | h
  · exact .inl ⟨h, Int.sign_eq_neg_one_of_neg h, by omega⟩
  · exact .inr (.inl ⟨h, by rw [h]; rfl, by omega⟩)
  · exact .inr (.inr ⟨h, Int.sign_eq_one_of_pos h, by omega⟩)
theorem add_eq (a b : Int) (ha : nd a ≤ 90000000) (hb : nd b ≤ 90000000) : m_159 [wD a, wD b] = some (wD (a + b)) := by
  unfold nd at ha hb
  show m_159 [.agg [iD a.sign, .list (dg a.natAbs).length ((dg a.natAbs).map iD)], .agg [iD b.sign, .list (dg b.natAbs).length ((dg b.natAbs).map iD)]] = _
  rw [m_159_eq]
  unfold w_add_M
  have sa := sign_cases a
  have sb := sign_cases b
  by_cases h1 : a.sign = 0
  · rw [if_pos h1, show a = 0 by omega, Int.zero_add]; rfl
  rw [if_neg h1]
  by_cases h2 : b.sign = 0
  · rw [if_pos h2, show b = 0 by omega, Int.add_zero]; rfl
  rw [if_neg h2]
  have fin : ∀ (s : Int) (l : List Int), s = 1 ∨ s = -1 → l.length ≤ 1000000000000 → Dig l → s * vl l = a + b → m_145 [.one (.int .i64 s), .list l.length (l.map iD)] = some (.agg [iD (a + b).sign, .list (dg (a + b).natAbs).length ((dg (a + b).natAbs).map iD)]) := fun s l hs hl hd hv => by
    have := wideOf_eq hl hd (s := s) (by rcases hs with h | h <;> simp [h])
    rw [hv] at this
    exact this
  by_cases h3 : a.sign = b.sign
  · rw [if_pos h3]
    obtain ⟨l, q1, q2, q3, q4⟩ := addDigits_eq (dg a.natAbs) (dg b.natAbs) (dg_dig _) (dg_dig _) 90000000 ha hb (by decide)
    rw [show [D.list (dg a.natAbs).length ((dg a.natAbs).map iD), .list (dg b.natAbs).length ((dg b.natAbs).map iD)] = [lD (dg a.natAbs), lD (dg b.natAbs)] from rfl, q1, pullD_some (l.length, l.map iD) (by rfl) (by rfl)]
    dsimp only
    rw [vl_dg, vl_dg] at q3
    rw [fin a.sign l (by omega) (by omega) q2 (by rw [q3]; rcases sa with h | h | h <;> rcases sb with g | g | g <;> rw [h.2.1] <;> omega), pullD_some ((a + b).sign, (dg (a + b).natAbs).length, (dg (a + b).natAbs).map iD) (by rfl) (by rfl)]
    rfl
  rw [if_neg h3]
  rw [show [D.list (dg a.natAbs).length ((dg a.natAbs).map iD), .list (dg b.natAbs).length ((dg b.natAbs).map iD)] = [lD (dg a.natAbs), lD (dg b.natAbs)] from rfl, cmpDigits_eq a.natAbs b.natAbs (by omega) (by omega), pullI]
  unfold sgn3
  by_cases h4 : a.natAbs < b.natAbs
  · rw [if_pos h4, if_neg (by decide), if_neg (by decide)]
    rw [show [D.list (dg b.natAbs).length ((dg b.natAbs).map iD), .list (dg a.natAbs).length ((dg a.natAbs).map iD)] = [lD (dg b.natAbs), lD (dg a.natAbs)] from rfl, subDigits_eq b.natAbs a.natAbs (by omega) (by omega), pullD_some ((dg (b.natAbs - a.natAbs)).length, (dg (b.natAbs - a.natAbs)).map iD) (by rfl) (by rfl)]
    dsimp only
    have hl := dg_len_mono (show b.natAbs - a.natAbs ≤ b.natAbs by omega)
    rw [fin b.sign (dg (b.natAbs - a.natAbs)) (by omega) (by omega) (dg_dig _) (by rw [vl_dg]; rcases sa with h | h | h <;> rcases sb with g | g | g <;> rw [g.2.1] <;> omega), pullD_some ((a + b).sign, (dg (a + b).natAbs).length, (dg (a + b).natAbs).map iD) (by rfl) (by rfl)]
    rfl
  by_cases h5 : b.natAbs < a.natAbs
  · rw [if_neg h4, if_pos h5, if_neg (by decide), if_pos (by decide)]
    rw [subDigits_eq a.natAbs b.natAbs (by omega) (by omega), pullD_some ((dg (a.natAbs - b.natAbs)).length, (dg (a.natAbs - b.natAbs)).map iD) (by rfl) (by rfl)]
    dsimp only
    have hl := dg_len_mono (show a.natAbs - b.natAbs ≤ a.natAbs by omega)
    rw [fin a.sign (dg (a.natAbs - b.natAbs)) (by omega) (by omega) (dg_dig _) (by rw [vl_dg]; rcases sa with h | h | h <;> rcases sb with g | g | g <;> rw [h.2.1] <;> omega), pullD_some ((a + b).sign, (dg (a + b).natAbs).length, (dg (a + b).natAbs).map iD) (by rfl) (by rfl)]
    rfl
  · rw [if_neg h4, if_neg h5, if_pos rfl, show a + b = 0 by omega]
    unfold wD eD
    rw [show (0 : Int).natAbs = 0 from rfl, dg_zero]
    rfl
theorem wD_cells (z : Int) : wD z = .agg [iD z.sign, .list (dg z.natAbs).length ((dg z.natAbs).map iD)] := rfl
theorem sub_eq (a b : Int) (ha : nd a ≤ 90000000) (hb : nd b ≤ 90000000) : m_150 [wD a, wD b] = some (wD (a - b)) := by
  rw [wD_cells a, wD_cells b, m_150_eq]
  unfold w_sub_M
  rw [← wD_cells b, neg_eq b, pullD_some ((-b).sign, (dg (-b).natAbs).length, (dg (-b).natAbs).map iD) (by rfl) (by rfl)]
  dsimp only
  have hb' : nd (-b) ≤ 90000000 := by unfold nd; rw [Int.natAbs_neg]; exact hb
  have := add_eq a (-b) ha hb'
  rw [← Int.sub_eq_add_neg] at this
  unfold wD eD at this
  rw [this, pullD_some ((a - b).sign, (dg (a - b).natAbs).length, (dg (a - b).natAbs).map iD) (by rfl) (by rfl)]
  rfl
theorem cmp_eq (a b : Int) (ha : nd a ≤ 90000000) (hb : nd b ≤ 90000000) : m_126 [wD a, wD b] = some (iD (a - b).sign) := by
  have h := sub_eq a b ha hb
  rw [wD_cells a, wD_cells b] at h ⊢
  rw [m_126_eq]
  unfold w_cmp_M
  rw [h, pullD_some ((a - b).sign, (dg (a - b).natAbs).length, (dg (a - b).natAbs).map iD) (by rfl) (by rfl)]
end Go.Proofs.Ytlnolhhoakmdhaa
/- Numbers of any size: products. -/
namespace Go.Proofs.Ytlnolhhoakmdhaa
open Go.Ev Go.RowKit
set_option maxRecDepth 100000
theorem prod_bound {x y : Int} (h0 : 0 ≤ x) (h1 : x < 1000000000) (h2 : 0 ≤ y) (h3 : y < 1000000000) : 0 ≤ x * y ∧ x * y ≤ 999999998000000001 := by
  have a := Int.mul_nonneg h0 h2
  have b := Int.mul_le_mul (show x ≤ 999999999 by omega) (show y ≤ 999999999 by omega) h2 (by decide)
  exact ⟨a, by omega⟩
theorem readP (o : List Int) (p : Nat) (h : p < o.length) : readD (o.map iD) (0 + p * 1) 1 false = some (iD (o[p]?.getD 0)) := by
  rw [Nat.zero_add, List.getElem?_eq_getElem h]
  exact readW (List.getElem?_eq_getElem h)
theorem mul_step (sa sb : Int) (a b o : List Int) (ha : Dig a) (hb : Dig b) (ho : Dig o) (x1 : List D) (i k : Nat) (c : Int) (h0 : 0 ≤ c) (h1 : c < 1000000000) (hi : i < a.length) (hk : k < b.length) (hl : o.length = a.length + b.length + 1) (hs : a.length + b.length ≤ 1000000000) (s : Int) (hsv : s = o[i + k]?.getD 0 + a[i]?.getD 0 * b[k]?.getD 0 + c) :
    w_mul_L7_S sa a.length (a.map iD) sb b.length (b.map iD) (i : Int) x1 (.next 0 [iD c, iD (k : Int), .list (a.length + b.length + 1) (o.map iD)]) = some (.next 0 [iD (s / 1000000000), iD ((k + 1 : Nat) : Int), .list (a.length + b.length + 1) ((o.set (i + k) (s % 1000000000)).map iD)]) := by
  have pa := ha.at i
  have pb := hb.at k
  have po := ho.at (i + k)
  have pp := prod_bound pa.1 pa.2 pb.1 pb.2
  have eN : (IntKind.i64.wrap (IntKind.i64.wrap ((a.length : Int) + (b.length : Int)) + 1)).toNat = a.length + b.length + 1 := by
    rw [wrapI _ (by rw [wrapI _ (by omega) (by omega)]; omega) (by rw [wrapI _ (by omega) (by omega)]; omega), wrapI _ (by omega) (by omega)]; omega
  have eP : IntKind.i64.wrap ((i : Int) + (k : Int)) = ((i + k : Nat) : Int) := by rw [wrapI _ (by omega) (by omega)]; omega
  have ea : a[i]?.getD 0 = a[i] := by rw [List.getElem?_eq_getElem hi]; rfl
  have eb : b[k]?.getD 0 = b[k] := by rw [List.getElem?_eq_getElem hk]; rfl
  rw [ea] at pa
  rw [eb] at pb
  rw [ea, eb] at pp hsv
  have e1 : IntKind.i64.wrap (a[i] * b[k]) = a[i] * b[k] := wrapI _ (by omega) (by omega)
  have e2 : IntKind.i64.wrap (o[i + k]?.getD 0 + a[i] * b[k]) = o[i + k]?.getD 0 + a[i] * b[k] := wrapI _ (by omega) (by omega)
  have e3 : IntKind.i64.wrap (o[i + k]?.getD 0 + a[i] * b[k] + c) = s := by rw [← hsv]; exact wrapI _ (by omega) (by omega)
  have e4 : s.tmod 1000000000 = s % 1000000000 := tmodB (by omega)
  have e5 : IntKind.i64.wrap (s.tdiv 1000000000) = s / 1000000000 := by rw [tdivB (by omega), wrapI _ (by omega) (by omega)]
  have e6 : IntKind.i64.wrap ((k : Int) + 1) = ((k + 1 : Nat) : Int) := by rw [wrapI _ (by omega) (by omega)]; omega
  show w_mul_L7_S0 sa a.length (a.map iD) sb b.length (b.map iD) (i : Int) x1 _ = _
  unfold w_mul_L7_S0
  rw [pullD_some (c, (k : Int), a.length + b.length + 1, o.map iD) (by rfl) (by rfl)]
  dsimp only
  rw [if_pos (by omega), eP, eN, guardP_pos (by omega), Int.toNat_natCast, readP o (i + k) (by omega), pullI, guardP_pos (by omega), readW (List.getElem?_eq_getElem hi), pullI, guardP_pos (by omega), readW (List.getElem?_eq_getElem hk), pullI, e1, e2, e3, e4, e5, e6,
    guardP_pos ⟨by rw [List.length_map]; omega, cellD_int _⟩, set_list o (i + k) _ (by omega)]
theorem mul_inner (sa sb : Int) (a b : List Int) (ha : Dig a) (hb : Dig b) (x1 : List D) (i : Nat) (hi : i < a.length) (hs : a.length + b.length ≤ 1000000000) : ∀ (r k : Nat) (c : Int) (o : List Int), b.length - k ≤ r → k ≤ b.length → 0 ≤ c → c < 1000000000 → Dig o → o.length = a.length + b.length + 1 →
    ∃ o' c', runR (w_mul_L7_S sa a.length (a.map iD) sb b.length (b.map iD) (i : Int) x1) (.next 0 [iD c, iD (k : Int), .list (a.length + b.length + 1) (o.map iD)]) = some (.out 0 [iD c', .list (a.length + b.length + 1) (o'.map iD)]) ∧ Dig o' ∧ o'.length = o.length ∧ 0 ≤ c' ∧ c' < 1000000000 ∧
      vl o' + (1000000000 : Int) ^ (i + b.length) * c' = vl o + (1000000000 : Int) ^ (i + k) * c + (1000000000 : Int) ^ i * (a[i]?.getD 0 * (vl b - vl (b.take k))) ∧ ∀ j, i + b.length ≤ j → o'[j]? = o[j]? := by
  intro r
  induction r with
  | zero =>
    intro k c o hr hk h0 h1 ho hl
    have : k = b.length := by omega
    subst this
    refine ⟨o, c, runR_exit ?_, ho, rfl, h0, h1, ?_, fun _ _ => rfl⟩
    · show w_mul_L7_S0 sa a.length (a.map iD) sb b.length (b.map iD) (i : Int) x1 _ = _
      unfold w_mul_L7_S0
      have eN : (IntKind.i64.wrap (IntKind.i64.wrap ((a.length : Int) + (b.length : Int)) + 1)).toNat = a.length + b.length + 1 := by
        rw [wrapI _ (by rw [wrapI _ (by omega) (by omega)]; omega) (by rw [wrapI _ (by omega) (by omega)]; omega), wrapI _ (by omega) (by omega)]; omega
      rw [pullD_some (c, (b.length : Int), a.length + b.length + 1, o.map iD) (by rfl) (by rfl)]
      dsimp only
      rw [if_neg (by omega), eN]
    · rw [List.take_length, Int.sub_self, Int.mul_zero, Int.mul_zero, Int.add_zero]
  | succ r ih =>
    intro k c o hr hk h0 h1 ho hl
    by_cases hkb : k < b.length
    · have pa := ha.at i
      have pb := hb.at k
      have po := ho.at (i + k)
      have pp := prod_bound pa.1 pa.2 pb.1 pb.2
      generalize hsv : o[i + k]?.getD 0 + a[i]?.getD 0 * b[k]?.getD 0 + c = s
      have st := mul_step sa sb a b o ha hb ho x1 i k c h0 h1 hi hkb hl hs s hsv.symm
      obtain ⟨o', c', q1, q2, q3, q4, q5, q6, q7⟩ := ih (k + 1) (s / 1000000000) (o.set (i + k) (s % 1000000000)) (by omega) (by omega) (by omega) (by omega) (ho.set _ (by omega) (by omega)) (by rw [List.length_set]; exact hl)
      refine ⟨o', c', (runR_next st).trans q1, q2, by rw [q3, List.length_set], q4, q5, ?_, fun j hj => ?_⟩
      · rw [q6, vl_set o (i + k) _ (by omega), vl_take_succ]
        have e : s = s % 1000000000 + 1000000000 * (s / 1000000000) := by omega
        generalize s % 1000000000 = x at *
        generalize s / 1000000000 = y at *
        rw [show i + (k + 1) = i + k + 1 by omega, Int.pow_succ, Int.pow_add]
        generalize (1000000000 : Int) ^ i = Q
        generalize (1000000000 : Int) ^ k = R
        generalize o[i + k]?.getD 0 = op at *
        generalize a[i]?.getD 0 = ai at *
        generalize b[k]?.getD 0 = bk at *
        grind
      · rw [q7 j hj, List.getElem?_set_ne (by omega)]
    · have : k = b.length := by omega
      subst this
      exact ih b.length c o (by omega) hk h0 h1 ho hl
theorem mul_outer (sa sb : Int) (a b : List Int) (ha : Dig a) (hb : Dig b) (hs : a.length + b.length ≤ 1000000000) : ∀ (r i : Nat) (o : List Int), a.length - i ≤ r → i ≤ a.length → Dig o → o.length = a.length + b.length + 1 → (∀ j, i + b.length ≤ j → o[j]?.getD 0 = 0) → vl o = vl (a.take i) * vl b →
    ∃ o', runR (w_mul_L3_S sa a.length (a.map iD) sb b.length (b.map iD)) (.next 0 [iD (i : Int), .list (a.length + b.length + 1) (o.map iD)]) = some (.out 0 [.list (a.length + b.length + 1) (o'.map iD)]) ∧ Dig o' ∧ o'.length = a.length + b.length + 1 ∧ vl o' = vl a * vl b := by
  have eN : (IntKind.i64.wrap (IntKind.i64.wrap ((a.length : Int) + (b.length : Int)) + 1)).toNat = a.length + b.length + 1 := by
    rw [wrapI _ (by rw [wrapI _ (by omega) (by omega)]; omega) (by rw [wrapI _ (by omega) (by omega)]; omega), wrapI _ (by omega) (by omega)]; omega
  intro r
  induction r with
  | zero =>
    intro i o hr hi ho hl hz hv
    have : i = a.length := by omega
    subst this
    refine ⟨o, runR_exit ?_, ho, hl, by rw [hv, List.take_length]⟩
    show w_mul_L3_S0 sa a.length (a.map iD) sb b.length (b.map iD) _ = _
    unfold w_mul_L3_S0
    rw [pullD_some ((a.length : Int), a.length + b.length + 1, o.map iD) (by rfl) (by rfl)]
    dsimp only
    rw [if_neg (by omega), eN]
  | succ r ih =>
    intro i o hr hi ho hl hz hv
    by_cases hia : i < a.length
    · obtain ⟨o', c', q1, q2, q3, q4, q5, q6, q7⟩ := mul_inner sa sb a b ha hb (o.map iD) i hia hs b.length 0 0 o (by omega) (by omega) (by decide) (by decide) ho hl
      have hp : i + b.length < o'.length := by omega
      have h3 : o'[i + b.length]?.getD 0 = 0 := by rw [q7 _ (Nat.le_refl _)]; exact hz _ (Nat.le_refl _)
      have eP : IntKind.i64.wrap ((i : Int) + (b.length : Int)) = ((i + b.length : Nat) : Int) := by rw [wrapI _ (by omega) (by omega)]; omega
      have e6 : IntKind.i64.wrap ((i : Int) + 1) = ((i + 1 : Nat) : Int) := by rw [wrapI _ (by omega) (by omega)]; omega
      have e7 : IntKind.i64.wrap (0 + c') = c' := by rw [Int.zero_add]; exact wrapI _ (by omega) (by omega)
      have st : w_mul_L3_S sa a.length (a.map iD) sb b.length (b.map iD) (.next 0 [iD (i : Int), .list (a.length + b.length + 1) (o.map iD)]) = some (.next 0 [iD ((i + 1 : Nat) : Int), .list (a.length + b.length + 1) ((o'.set (i + b.length) c').map iD)]) := by
        show w_mul_L3_S0 sa a.length (a.map iD) sb b.length (b.map iD) _ = _
        unfold w_mul_L3_S0
        rw [pullD_some ((i : Int), a.length + b.length + 1, o.map iD) (by rfl) (by rfl)]
        dsimp only
        have q1 : runR (w_mul_L7_S sa a.length (a.map iD) sb b.length (b.map iD) (i : Int) (o.map iD)) (.next 0 [.one (.int .i64 0), .one (.int .i64 0), .list (a.length + b.length + 1) (o.map iD)]) = some (.out 0 [iD c', .list (a.length + b.length + 1) (o'.map iD)]) := q1
        rw [if_pos (by omega), eP, eN, guardP_pos (by omega), q1, bindL_some rfl, if_pos rfl, pullD_some (c', a.length + b.length + 1, o'.map iD) (by rfl) (by rfl)]
        dsimp only
        rw [Int.toNat_natCast, readP o' (i + b.length) hp, pullI, h3, e7, guardP_pos ⟨by rw [List.length_map]; omega, cellD_int _⟩, set_list o' (i + b.length) _ hp, e6]
      obtain ⟨o2, r1, r2, r3, r4⟩ := ih (i + 1) (o'.set (i + b.length) c') (by omega) (by omega) (q2.set _ q4 q5) (by rw [List.length_set]; omega) (fun j hj => by
        rw [List.getElem?_set_ne (by omega), q7 j (by omega)]
        exact hz j (by omega)) (by
        rw [vl_set o' _ _ hp, h3, vl_take_succ, Int.sub_zero, q6, hv, List.take_zero]
        simp only [vl, Int.mul_zero, Int.add_zero, Int.sub_zero]
        grind)
      exact ⟨o2, (runR_next st).trans r1, r2, r3, r4⟩
    · have : i = a.length := by omega
      subst this
      exact ih a.length o (by omega) hi ho hl hz hv
theorem mul_eq (a b : Int) (hs : nd a + nd b ≤ 100000000) : m_125 [wD a, wD b] = some (wD (a * b)) := by
  unfold nd at hs
  rw [wD_cells a, wD_cells b, m_125_eq]
  unfold w_mul_M
  generalize hA : dg a.natAbs = A at *
  generalize hB : dg b.natAbs = B at *
  have dA : Dig A := by rw [← hA]; exact dg_dig _
  have dB : Dig B := by rw [← hB]; exact dg_dig _
  have vA : vl A = a.natAbs := by rw [← hA]; exact vl_dg _
  have vB : vl B = b.natAbs := by rw [← hB]; exact vl_dg _
  have eW : IntKind.i64.wrap (IntKind.i64.wrap ((A.length : Int) + (B.length : Int)) + 1) = ((A.length + B.length + 1 : Nat) : Int) := by
    rw [wrapI _ (by rw [wrapI _ (by omega) (by omega)]; omega) (by rw [wrapI _ (by omega) (by omega)]; omega), wrapI _ (by omega) (by omega)]; omega
  obtain ⟨o, q1, q2, q3, q4⟩ := mul_outer a.sign b.sign A B dA dB (by omega) A.length 0 (List.replicate (A.length + B.length + 1) 0) (by omega) (by omega) (fun x hx => by rw [List.mem_replicate] at hx; rw [hx.2]; decide) (by rw [List.length_replicate]) (fun j _ => by
    rw [List.getElem?_replicate]
    split <;> rfl) (by rw [vl_zeros]; simp [vl])
  have q1 : runR (w_mul_L3_S a.sign A.length (A.map iD) b.sign B.length (B.map iD)) (.next 0 [.one (.int .i64 0), .list (A.length + B.length + 1) ((List.replicate (A.length + B.length + 1) 0).map iD)]) = some (.out 0 [.list (A.length + B.length + 1) (o.map iD)]) := q1
  rw [eW, guardP_pos (by omega), guardP_pos (Nat.le_refl _), Int.toNat_natCast, zeros_list, q1, bindL_some rfl, if_pos rfl, pullD_some (A.length + B.length + 1, o.map iD) (by rfl) (by rfl)]
  dsimp only
  have sa := sign_cases a
  have sb := sign_cases b
  have es : IntKind.i64.wrap (a.sign * b.sign) = a.sign * b.sign := by
    rcases sa with h | h | h <;> rcases sb with g | g | g <;> rw [h.2.1, g.2.1] <;> rfl
  have ev : a.sign * b.sign * vl o = a * b := by
    rw [q4, vA, vB]
    have h1 := Int.sign_mul_natAbs a
    have h2 := Int.sign_mul_natAbs b
    generalize (a.natAbs : Int) = x at *
    generalize (b.natAbs : Int) = y at *
    rw [Int.mul_assoc, ← Int.mul_assoc b.sign, Int.mul_comm b.sign, Int.mul_assoc, h2, ← Int.mul_assoc, h1]
  have hw := wideOf_eq (s := a.sign * b.sign) (l := o) (by omega) q2 (by
    rw [q4, vA, vB]
    rcases sa with h | h | h <;> rcases sb with g | g | g <;> rw [h.2.1, g.2.1] <;> first
      | (left; rfl)
      | (right; left; rfl)
      | (right; right; rw [show a.natAbs = 0 by omega]; simp; done)
      | (right; right; rw [show b.natAbs = 0 by omega]; simp; done))
  rw [ev] at hw
  have hw : m_145 [.one (.int .i64 (a.sign * b.sign)), .list (A.length + B.length + 1) (o.map iD)] = some (wD (a * b)) := by
    rw [← q3]; exact hw
  rw [es, hw, pullD_some ((a * b).sign, (dg (a * b).natAbs).length, (dg (a * b).natAbs).map iD) (by rfl) (by rfl)]
  rfl
end Go.Proofs.Ytlnolhhoakmdhaa
/- Numbers of any size: quotients, rounded down. -/
namespace Go.Proofs.Ytlnolhhoakmdhaa
open Go.Ev Go.RowKit
set_option maxRecDepth 100000
theorem times_eq (b m : Nat) (hb : 0 < b) (hl : (dg b).length ≤ 10000000) (hm : m < 1000000000) :
    m_145 [.one (.int .i64 1), .list (dg b).length ((dg b).map iD)] = some (wD (b : Int)) ∧ m_121 [.one (.int .i64 (m : Int))] = some (wD (m : Int)) ∧ m_125 [wD (b : Int), wD (m : Int)] = some (wD ((b * m : Nat) : Int)) := by
  refine ⟨?_, of_eq m (by omega) (by omega), ?_⟩
  · have := wideOf_eq (s := 1) (l := dg b) (by omega) (dg_dig b) (.inl rfl)
    rw [vl_dg, Int.one_mul] at this
    exact this
  · have h2 : (dg m).length ≤ 1 := dg_len_le (by omega)
    rw [mul_eq (b : Int) (m : Int) (by unfold nd; rw [Int.natAbs_natCast, Int.natAbs_natCast]; omega)]
    rw [Int.natCast_mul]
theorem len_mul (b m : Nat) (hm : m < 1000000000) : (dg (b * m)).length ≤ (dg b).length + 1 := dg_len_le (by
  have := lt_of_dg_len b
  rw [Nat.pow_succ]
  rcases Nat.eq_zero_or_pos m with h | h
  · rw [h, Nat.mul_zero]; exact Nat.mul_pos (Nat.pow_pos (by decide)) (by decide)
  · calc b * m < 1000000000 ^ (dg b).length * m := Nat.mul_lt_mul_of_pos_right this h
      _ ≤ 1000000000 ^ (dg b).length * 1000000000 := Nat.mul_le_mul_left _ (by omega))
theorem floor_inner (sa : Int) (ka : Nat) (ca : List D) (sb : Int) (b : Nat) (hb : 0 < b) (hl : (dg b).length ≤ 10000000) (x0 : Nat) (x1 : List D) (x2 : Int) (x3 : List D) (x4 : Int) (lf : Nat) (hf : (dg lf).length ≤ 100000000) : ∀ (r lo hi : Nat), hi - lo ≤ r → lo ≤ hi → hi < 1000000000 → lo * b ≤ lf → lf < (hi + 1) * b →
    runR (w_floor_L9_S sa ka ca sb (dg b).length ((dg b).map iD) x0 x1 x2 x3 x4 (dg lf).length ((dg lf).map iD)) (.next 0 [iD (lo : Int), iD (hi : Int)]) = some (.out 0 [iD ((lf / b : Nat) : Int)]) := by
  intro r
  induction r with
  | zero =>
    intro lo hi h1 h2 h3 h4 h5
    have : hi = lo := by omega
    subst this
    have e : lf / b = hi := by
      have h6 := (Nat.le_div_iff_mul_le hb).2 h4
      have h7 := (Nat.div_lt_iff_lt_mul hb).2 h5
      omega
    refine runR_exit ?_
    show w_floor_L9_S0 sa ka ca sb (dg b).length ((dg b).map iD) x0 x1 x2 x3 x4 (dg lf).length ((dg lf).map iD) _ = _
    unfold w_floor_L9_S0
    rw [pullD_some ((hi : Int), (hi : Int)) (by rfl) (by rfl)]
    dsimp only
    rw [if_neg (by omega), e]
  | succ r ih =>
    intro lo hi h1 h2 h3 h4 h5
    by_cases hlt : lo < hi
    · generalize hm : (lo + hi + 1) / 2 = m
      have eM : IntKind.i64.wrap ((IntKind.i64.wrap (IntKind.i64.wrap ((lo : Int) + (hi : Int)) + 1)).tdiv 2) = (m : Int) := by
        have e1 : IntKind.i64.wrap ((lo : Int) + (hi : Int)) = (lo : Int) + (hi : Int) := wrapI _ (by omega) (by omega)
        rw [e1, wrapI ((lo : Int) + (hi : Int) + 1) (by omega) (by omega), Int.tdiv_eq_ediv_of_nonneg (by omega), wrapI _ (by omega) (by omega)]
        omega
      obtain ⟨t1, t2, t3⟩ := times_eq b m hb hl (by omega)
      have hlen := len_mul b m (by omega)
      have st : w_floor_L9_S sa ka ca sb (dg b).length ((dg b).map iD) x0 x1 x2 x3 x4 (dg lf).length ((dg lf).map iD) (.next 0 [iD (lo : Int), iD (hi : Int)]) = some (if b * m ≤ lf then .next 0 [iD (m : Int), iD (hi : Int)] else .next 0 [iD (lo : Int), iD ((m - 1 : Nat) : Int)]) := by
        show w_floor_L9_S0 sa ka ca sb (dg b).length ((dg b).map iD) x0 x1 x2 x3 x4 (dg lf).length ((dg lf).map iD) _ = _
        unfold w_floor_L9_S0
        rw [pullD_some ((lo : Int), (hi : Int)) (by rfl) (by rfl)]
        dsimp only
        rw [if_pos (by omega), t1, pullD_some ((b : Int).sign, (dg (b : Int).natAbs).length, (dg (b : Int).natAbs).map iD) (by rfl) (by rfl)]
        dsimp only
        rw [eM, t2, pullD_some ((m : Int).sign, (dg (m : Int).natAbs).length, (dg (m : Int).natAbs).map iD) (by rfl) (by rfl)]
        dsimp only
        rw [← wD_cells, ← wD_cells, t3, pullD_some (((b * m : Nat) : Int).sign, (dg ((b * m : Nat) : Int).natAbs).length, (dg ((b * m : Nat) : Int).natAbs).map iD) (by rfl) (by rfl)]
        dsimp only
        have hc := cmpDigits_eq (b * m) lf (by omega) (by omega)
        rw [Int.natAbs_natCast]
        rw [show [D.list (dg (b * m)).length ((dg (b * m)).map iD), D.list (dg lf).length ((dg lf).map iD)] = [lD (dg (b * m)), lD (dg lf)] from rfl, hc, pullI]
        unfold sgn3
        by_cases h6 : b * m ≤ lf
        · rw [if_pos h6, if_pos (by
            split
            · omega
            · rw [if_neg (by omega)]; omega)]
        · rw [if_neg h6, if_neg (by rw [if_neg (by omega), if_pos (by omega)]; omega), wrapI _ (by omega) (by omega)]
          have : (m : Int) - 1 = ((m - 1 : Nat) : Int) := by omega
          rw [this]
      by_cases h6 : b * m ≤ lf
      · rw [if_pos h6] at st
        rw [runR_next st]
        exact ih m hi (by omega) (by omega) h3 (by rw [Nat.mul_comm]; exact h6) h5
      · rw [if_neg h6] at st
        rw [runR_next st]
        exact ih lo (m - 1) (by omega) (by omega) (by omega) h4 (by rw [show m - 1 + 1 = m by omega, Nat.mul_comm]; omega)
    · exact ih lo hi (by omega) h2 h3 h4 h5
theorem drop_cons {l : List Int} {i : Nat} (h : i < l.length) : l.drop i = l[i] :: l.drop (i + 1) := List.drop_eq_getElem_cons h
theorem floor_outer (sa : Int) (A : List Int) (hA : Dig A) (sb : Int) (b : Nat) (hb : 0 < b) (hl : (dg b).length ≤ 10000000) (hn : A.length ≤ 10000000) : ∀ (i : Nat) (lf : Nat) (q : List Int), i ≤ A.length → lf < b → Dig q → q.length = A.length → (∀ j, j < i → q[j]? = some 0) → vl (A.drop i) = vl (q.drop i) * b + lf →
    ∃ (lf' : Nat) (q' : List Int), runR (w_floor_L5_S sa A.length (A.map iD) sb (dg b).length ((dg b).map iD)) (.next 0 [lD (dg lf), iD ((i : Int) - 1), .list A.length (q.map iD)]) = some (.out 0 [lD (dg lf'), .list A.length (q'.map iD)]) ∧ Dig q' ∧ q'.length = A.length ∧ lf' < b ∧ vl A = vl q' * b + lf' := by
  intro i
  induction i with
  | zero =>
    intro lf q hi hlf hq hql hz hv
    refine ⟨lf, q, runR_exit ?_, hq, hql, hlf, by simpa using hv⟩
    show w_floor_L5_S0 sa A.length (A.map iD) sb (dg b).length ((dg b).map iD) _ = _
    unfold w_floor_L5_S0
    rw [pullD_some ((dg lf).length, (dg lf).map iD, ((0 : Nat) : Int) - 1, A.length, q.map iD) (by rfl) (by rfl)]
    dsimp only
    rw [if_neg (by omega), Int.toNat_natCast]
  | succ i ih =>
    intro lf q hi hlf hq hql hz hv
    have hia : i < A.length := by omega
    have hd : 0 ≤ A[i] ∧ A[i] < 1000000000 := hA _ (List.getElem_mem hia)
    obtain ⟨d, hdv⟩ : ∃ d : Nat, A[i] = (d : Int) := ⟨A[i].toNat, by omega⟩
    generalize hF : d + 1000000000 * lf = F
    have hlf1 := dg_len_mono (show lf ≤ b by omega)
    have hFb : F < 1000000000 * b := by omega
    have hFl : (dg F).length ≤ (dg b).length + 1 := Nat.le_trans (dg_len_mono (show F ≤ b * 1000000000 by omega)) (by
      refine dg_len_le ?_
      rw [Nat.pow_succ]
      exact Nat.mul_lt_mul_of_pos_right (lt_of_dg_len b) (by decide))
    have e1 : (((i + 1 : Nat) : Int) - 1) = (i : Int) := by omega
    have tr : m_155 [.list (0 + 1 + (dg lf).length) (iD A[i] :: (dg lf).map iD)] = some (lD (dg F)) := by
      have h1 : D.list (0 + 1 + (dg lf).length) (iD A[i] :: (dg lf).map iD) = lD (A[i] :: dg lf) := by
        simp only [lD, List.length_cons, List.map_cons]
        rw [show 0 + 1 + (dg lf).length = (dg lf).length + 1 by omega]
      have h2 : Dig (A[i] :: dg lf) := fun x hx => by
        rcases List.mem_cons.1 hx with rfl | hx
        · exact hd
        · exact dg_dig lf x hx
      have h3 : (vl (A[i] :: dg lf)).toNat = F := by
        simp only [vl, vl_dg]
        omega
      rw [h1, trimmed_eq _ (by simp only [List.length_cons]; omega), take_keep h2, h3]
    have hinner := floor_inner sa A.length (A.map iD) sb b hb hl (dg lf).length ((dg lf).map iD) (i : Int) (q.map iD) A[i] F (by omega) 999999999 0 999999999 (by omega) (by omega) (by omega) (by omega) (by omega)
    have hQ : F / b < 1000000000 := (Nat.div_lt_iff_lt_mul hb).2 hFb
    obtain ⟨t1, t2, t3⟩ := times_eq b (F / b) hb hl hQ
    have hmul : b * (F / b) ≤ F := Nat.mul_div_le F b
    have hsub := subDigits_eq F (b * (F / b)) hmul (by omega)
    have hmod : F - b * (F / b) = F % b := by
      have := Nat.div_add_mod F b
      omega
    rw [hmod] at hsub
    have e2 : IntKind.i64.wrap ((i : Int) - 1) = (i : Int) - 1 := wrapI _ (by omega) (by omega)
    have st : w_floor_L5_S sa A.length (A.map iD) sb (dg b).length ((dg b).map iD) (.next 0 [lD (dg lf), iD (((i + 1 : Nat) : Int) - 1), .list A.length (q.map iD)]) = some (.next 0 [lD (dg (F % b)), iD ((i : Int) - 1), .list A.length ((q.set i ((F / b : Nat) : Int)).map iD)]) := by
      show w_floor_L5_S0 sa A.length (A.map iD) sb (dg b).length ((dg b).map iD) _ = _
      unfold w_floor_L5_S0
      rw [e1, pullD_some ((dg lf).length, (dg lf).map iD, (i : Int), A.length, q.map iD) (by rfl) (by rfl)]
      dsimp only
      have hcell : ∀ u, u ∈ (dg lf).map iD → cellD u := by
        intro u hu
        rw [List.mem_map] at hu
        obtain ⟨x, _, rfl⟩ := hu
        rfl
      have hinner : runR (w_floor_L9_S sa A.length (A.map iD) sb (dg b).length ((dg b).map iD) (dg lf).length ((dg lf).map iD) (i : Int) (q.map iD) A[i] (dg F).length ((dg F).map iD)) (.next 0 [.one (.int .i64 0), .one (.int .i64 999999999)]) = some (.out 0 [iD ((F / b : Nat) : Int)]) := hinner
      rw [if_pos (by omega), guardP_pos (by omega), readW (List.getElem?_eq_getElem hia), pullI, guardP_pos ⟨hcell, by omega, by omega, by omega⟩, guardP_pos (by simp), guardP_pos (by simp <;> omega), guardP_pos (by simp <;> omega), tr, pullD_some ((dg F).length, (dg F).map iD) (by rfl) (by rfl)]
      dsimp only
      rw [hinner, bindL_some rfl, if_pos rfl, pullD_some ((F / b : Nat) : Int) (by rfl) (by rfl), guardP_pos ⟨by simp; omega, cellD_int _⟩, t1, pullD_some ((b : Int).sign, (dg (b : Int).natAbs).length, (dg (b : Int).natAbs).map iD) (by rfl) (by rfl)]
      dsimp only
      rw [t2, pullD_some (((F / b : Nat) : Int).sign, (dg ((F / b : Nat) : Int).natAbs).length, (dg ((F / b : Nat) : Int).natAbs).map iD) (by rfl) (by rfl)]
      dsimp only
      rw [← wD_cells, ← wD_cells, t3, pullD_some (((b * (F / b) : Nat) : Int).sign, (dg ((b * (F / b) : Nat) : Int).natAbs).length, (dg ((b * (F / b) : Nat) : Int).natAbs).map iD) (by rfl) (by rfl)]
      dsimp only
      rw [Int.natAbs_natCast]
      rw [show [D.list (dg F).length ((dg F).map iD), D.list (dg (b * (F / b))).length ((dg (b * (F / b))).map iD)] = [lD (dg F), lD (dg (b * (F / b)))] from rfl, hsub, pullD_some ((dg (F % b)).length, (dg (F % b)).map iD) (by rfl) (by rfl)]
      dsimp only
      rw [e2, Int.toNat_natCast, Int.toNat_natCast, set_list q i _ (by omega)]
    obtain ⟨lf', q', r1, r2, r3, r4, r5⟩ := ih (F % b) (q.set i ((F / b : Nat) : Int)) (by omega) (Nat.mod_lt _ hb) (hq.set i (Int.natCast_nonneg _) (Int.ofNat_lt.2 hQ)) (by rw [List.length_set]; exact hql) (fun j hj => by rw [List.getElem?_set_ne (by omega)]; exact hz j (by omega)) (by
      rw [drop_cons hia]
      rw [drop_cons (l := q.set i ((F / b : Nat) : Int)) (by rw [List.length_set]; omega), List.getElem_set_self]
      have : (q.set i ((F / b : Nat) : Int)).drop (i + 1) = q.drop (i + 1) := by rw [List.drop_set_of_lt (by omega)]
      rw [this]
      simp only [vl]
      rw [hv, hdv]
      have h1 : ((F % b : Nat) : Int) + (b : Int) * ((F / b : Nat) : Int) = (F : Int) := by
        have := Nat.mod_add_div F b
        exact_mod_cast this
      have h2 : (F : Int) = d + 1000000000 * (lf : Int) := by omega
      generalize ((F % b : Nat) : Int) = R at *
      generalize ((F / b : Nat) : Int) = Q at *
      generalize vl (q.drop (i + 1)) = V at *
      grind)
    exact ⟨lf', q', (runR_next st).trans r1, r2, r3, r4, r5⟩
theorem floor_eq (a : Int) (b : Nat) (hb : 0 < b) (ha : nd a ≤ 10000000) (hl : (dg b).length ≤ 10000000) : m_149 [wD a, wD (b : Int)] = some (wD (a / (b : Int))) := by
  unfold nd at ha
  rw [wD_cells a, wD_cells (b : Int), Int.natAbs_natCast, m_149_eq]
  unfold w_floor_M
  have sa := sign_cases a
  by_cases h0 : a.sign = 0
  · rw [if_pos h0, show a = 0 by omega, Int.zero_ediv]
    unfold wD eD
    rw [show (0 : Int).natAbs = 0 from rfl, dg_zero]
    rfl
  rw [if_neg h0]
  generalize hA : dg a.natAbs = A at *
  have dA : Dig A := by rw [← hA]; exact dg_dig _
  have vA : vl A = a.natAbs := by rw [← hA]; exact vl_dg _
  obtain ⟨lf, q, q1, q2, q3, q4, q5⟩ := floor_outer a.sign A dA (b : Int).sign b hb hl ha A.length 0 (List.replicate A.length 0) (Nat.le_refl _) hb (fun x hx => by rw [List.mem_replicate] at hx; rw [hx.2]; decide) (by rw [List.length_replicate]) (fun j hj => by rw [List.getElem?_replicate, if_pos hj]) (by simp [vl])
  have q1 : runR (w_floor_L5_S a.sign A.length (A.map iD) (b : Int).sign (dg b).length ((dg b).map iD)) (.next 0 [.list 0 [], .one (.int .i64 ((A.length : Int) - 1)), .list A.length ((List.replicate A.length 0).map iD)]) = some (.out 0 [lD (dg lf), .list A.length (q.map iD)]) := by
    rw [dg_zero] at q1; exact q1
  have hq0 : 0 ≤ vl q := vl_nonneg q2
  rw [guardP_pos (by omega), guardP_pos (Nat.le_refl _), Int.toNat_natCast, zeros_list, wrapI ((A.length : Int) - 1) (by omega) (by omega), q1, bindL_some rfl, if_pos rfl, pullD_some ((dg lf).length, (dg lf).map iD, A.length, q.map iD) (by rfl) (by rfl)]
  dsimp only
  have hw := wideOf_eq (s := a.sign) (l := q) (by omega) q2 (by omega)
  have hw : m_145 [.one (.int .i64 a.sign), .list A.length (q.map iD)] = some (wD (a.sign * vl q)) := by rw [← q3]; exact hw
  rw [hw, pullD_some ((a.sign * vl q).sign, (dg (a.sign * vl q).natAbs).length, (dg (a.sign * vl q).natAbs).map iD) (by rfl) (by rfl)]
  dsimp only
  rw [vA] at q5
  have hqb : vl q ≤ a.natAbs := by
    have h1 : vl q * 1 ≤ vl q * (b : Int) := Int.mul_le_mul_of_nonneg_left (by omega) hq0
    omega
  have hndq : (dg (a.sign * vl q).natAbs).length ≤ 10000000 := by
    have h1 : (a.sign * vl q).natAbs ≤ a.natAbs := by
      rcases sa with h | h | h <;> rw [h.2.1] <;> omega
    have := dg_len_mono h1
    rw [hA] at this
    omega
  have uniq : ∀ z r : Int, r + (b : Int) * z = a → 0 ≤ r → r < b → a / (b : Int) = z := fun z r h1 h2 h3 => ((Int.ediv_emod_unique (by omega)).2 ⟨h1, h2, h3⟩).1
  by_cases h1 : a.sign < 0
  · rw [if_pos h1]
    have hs : a.sign = -1 := by omega
    have ea : (a.natAbs : Int) = -a := by omega
    rw [ea] at q5
    by_cases h2 : ((dg lf).length : Int) > 0
    · have hlf : 0 < lf := by
        rcases Nat.eq_zero_or_pos lf with h | h
        · rw [h, dg_zero] at h2; simp at h2
        · exact h
      have ez : a / (b : Int) = a.sign * vl q - 1 := uniq _ ((b : Int) - lf) (by
        rw [hs]
        grind) (by omega) (by omega)
      have hsub := sub_eq (a.sign * vl q) 1 (by unfold nd; omega) (by
        have : (dg (1 : Int).natAbs).length ≤ 1 := dg_len_le (by decide)
        unfold nd; omega)
      rw [← ez] at hsub
      unfold wD eD at hsub
      have h1w : m_121 [.one (.int .i64 1)] = some (wD 1) := of_eq 1 (by decide) (by decide)
      rw [if_pos h2, h1w, pullD_some ((1 : Int).sign, (dg (1 : Int).natAbs).length, (dg (1 : Int).natAbs).map iD) (by rfl) (by rfl)]
      dsimp only
      rw [hsub, pullD_some ((a / (b : Int)).sign, (dg (a / (b : Int)).natAbs).length, (dg (a / (b : Int)).natAbs).map iD) (by rfl) (by rfl)]
      rfl
    · have hlf : lf = 0 := by
        rcases Nat.eq_zero_or_pos lf with h | h
        · exact h
        · have := dg_ne h
          have : (dg lf).length ≠ 0 := fun h3 => this (List.length_eq_zero_iff.1 h3)
          omega
      have ez : a / (b : Int) = a.sign * vl q := uniq _ 0 (by
        rw [hs]
        rw [hlf] at q5
        grind) (by omega) (by omega)
      rw [if_neg h2, ez]
      rfl
  · rw [if_neg h1]
    have hs : a.sign = 1 := by omega
    have ea : (a.natAbs : Int) = a := by omega
    rw [ea] at q5
    have ez : a / (b : Int) = a.sign * vl q := uniq _ lf (by
      rw [hs]
      grind) (by omega) (by omega)
    rw [ez]
    rfl
end Go.Proofs.Ytlnolhhoakmdhaa
/- Fractions of numbers of any size. -/
namespace Go.Proofs.Ytlnolhhoakmdhaa
open Go.Ev Go.RowKit
set_option maxRecDepth 100000
theorem eD_cells (z : Int) : eD z = [iD z.sign, .list (dg z.natAbs).length ((dg z.natAbs).map iD)] := rfl
abbrev rD (q : Rat) : D := .agg (eD q.num ++ eD (q.den : Int))
theorem rD_cells (q : Rat) : rD q = .agg [iD q.num.sign, .list (dg q.num.natAbs).length ((dg q.num.natAbs).map iD), iD (q.den : Int).sign, .list (dg (q.den : Int).natAbs).length ((dg (q.den : Int).natAbs).map iD)] := rfl
theorem size_eq (a : Int) : m_156 [wD a] = some (wD (a.natAbs : Int)) := by
  rw [wD_cells a, m_156_eq]
  unfold w_size_M
  have sa := sign_cases a
  by_cases h : a.sign < 0
  · have ha := neg_eq a
    rw [wD_cells a] at ha
    have e : -a = (a.natAbs : Int) := by omega
    rw [e] at ha
    rw [if_pos h, ha, pullD_some ((a.natAbs : Int).sign, (dg (a.natAbs : Int).natAbs).length, (dg (a.natAbs : Int).natAbs).map iD) (by rfl) (by rfl)]
    rfl
  · have e : (a.natAbs : Int) = a := by omega
    rw [if_neg h, e]
    rfl
theorem gcd_step (sa : Int) (ka : Nat) (ca : List D) (sb : Int) (kb : Nat) (cb : List D) (x0 : Int) (x1 : Nat) (x2 : List D) (x3 : Int) (x4 : Nat) (x5 : List D) (x y : Nat) (hy : 0 < y) (hx1 : (dg x).length ≤ 10000000) (hy1 : (dg y).length ≤ 10000000) :
    w_gcd_L2_S sa ka ca sb kb cb x0 x1 x2 x3 x4 x5 (.next 0 (eD (x : Int) ++ eD (y : Int))) = some (.next 0 (eD (y : Int) ++ eD ((x % y : Nat) : Int))) := by
  show w_gcd_L2_S0 sa ka ca sb kb cb x0 x1 x2 x3 x4 x5 _ = _
  unfold w_gcd_L2_S0
  rw [eD_cells (x : Int), eD_cells (y : Int), pullD_some ((x : Int).sign, (dg (x : Int).natAbs).length, (dg (x : Int).natAbs).map iD, (y : Int).sign, (dg (y : Int).natAbs).length, (dg (y : Int).natAbs).map iD) (by rfl) (by rfl)]
  dsimp only
  have hs : (y : Int).sign = 1 := Int.sign_eq_one_of_pos (by omega)
  have hq : (dg (x / y)).length ≤ (dg x).length := dg_len_mono (Nat.div_le_self x y)
  have hf := floor_eq (x : Int) y hy (by unfold nd; rw [Int.natAbs_natCast]; exact hx1) hy1
  have e1 : (x : Int) / (y : Int) = ((x / y : Nat) : Int) := by simp
  rw [e1] at hf
  have hm := mul_eq ((x / y : Nat) : Int) (y : Int) (by unfold nd; rw [Int.natAbs_natCast, Int.natAbs_natCast]; omega)
  have e2 : ((x / y : Nat) : Int) * (y : Int) = ((x / y * y : Nat) : Int) := by simp
  rw [e2] at hm
  have hle : x / y * y ≤ x := Nat.div_mul_le_self x y
  have hsb := sub_eq (x : Int) ((x / y * y : Nat) : Int) (by unfold nd; rw [Int.natAbs_natCast]; omega) (by unfold nd; rw [Int.natAbs_natCast]; have := dg_len_mono hle; omega)
  have e3 : (x : Int) - ((x / y * y : Nat) : Int) = ((x % y : Nat) : Int) := by
    have := Nat.mod_add_div x y
    rw [Nat.mul_comm] at this
    omega
  rw [e3] at hsb
  have hsg := sign_eq (y : Int)
  rw [wD_cells (y : Int)] at hsg
  rw [wD_cells (x : Int), wD_cells (y : Int)] at hf
  rw [wD_cells (y : Int)] at hm
  rw [wD_cells (x : Int)] at hsb
  rw [hsg, pullI, if_pos (by rw [hs]; decide), hf, pullD_some (((x / y : Nat) : Int).sign, (dg ((x / y : Nat) : Int).natAbs).length, (dg ((x / y : Nat) : Int).natAbs).map iD) (by rfl) (by rfl)]
  dsimp only
  rw [← wD_cells ((x / y : Nat) : Int), hm, pullD_some (((x / y * y : Nat) : Int).sign, (dg ((x / y * y : Nat) : Int).natAbs).length, (dg ((x / y * y : Nat) : Int).natAbs).map iD) (by rfl) (by rfl)]
  dsimp only
  rw [← wD_cells ((x / y * y : Nat) : Int), hsb, pullD_some (((x % y : Nat) : Int).sign, (dg ((x % y : Nat) : Int).natAbs).length, (dg ((x % y : Nat) : Int).natAbs).map iD) (by rfl) (by rfl)]
  rfl
theorem gcd_go (sa : Int) (ka : Nat) (ca : List D) (sb : Int) (kb : Nat) (cb : List D) (x0 : Int) (x1 : Nat) (x2 : List D) (x3 : Int) (x4 : Nat) (x5 : List D) : ∀ (y x : Nat), (dg x).length ≤ 10000000 → (dg y).length ≤ 10000000 →
    runR (w_gcd_L2_S sa ka ca sb kb cb x0 x1 x2 x3 x4 x5) (.next 0 (eD (x : Int) ++ eD (y : Int))) = some (.out 0 (eD ((Nat.gcd x y : Nat) : Int) ++ eD 0)) := by
  intro y
  induction y using Nat.strongRecOn with
  | ind y ih =>
    intro x hx hy
    rcases Nat.eq_zero_or_pos y with h | h
    · subst h
      rw [Nat.gcd_zero_right]
      refine runR_exit ?_
      show w_gcd_L2_S0 sa ka ca sb kb cb x0 x1 x2 x3 x4 x5 _ = _
      unfold w_gcd_L2_S0
      have hsg := sign_eq ((0 : Nat) : Int)
      rw [wD_cells] at hsg
      rw [eD_cells (x : Int), eD_cells ((0 : Nat) : Int), pullD_some ((x : Int).sign, (dg (x : Int).natAbs).length, (dg (x : Int).natAbs).map iD, ((0 : Nat) : Int).sign, (dg ((0 : Nat) : Int).natAbs).length, (dg ((0 : Nat) : Int).natAbs).map iD) (by rfl) (by rfl)]
      dsimp only
      rw [hsg, pullI, if_neg (by decide)]
      rfl
    · rw [runR_next (gcd_step sa ka ca sb kb cb x0 x1 x2 x3 x4 x5 x y h hx hy)]
      have hlt := Nat.mod_lt x h
      rw [ih (x % y) hlt y hy (Nat.le_trans (dg_len_mono (Nat.le_of_lt hlt)) hy), Nat.gcd_comm y, ← Nat.gcd_rec, Nat.gcd_comm]
theorem gcd_eq (a b : Int) (ha : nd a ≤ 10000000) (hb : nd b ≤ 10000000) : m_148 [wD a, wD b] = some (wD ((Int.gcd a b : Nat) : Int)) := by
  rw [wD_cells a, wD_cells b, m_148_eq]
  unfold w_gcd_M
  have h1 := size_eq a
  have h2 := size_eq b
  rw [wD_cells a] at h1
  rw [wD_cells b] at h2
  rw [h1, pullD_some ((a.natAbs : Int).sign, (dg (a.natAbs : Int).natAbs).length, (dg (a.natAbs : Int).natAbs).map iD) (by rfl) (by rfl)]
  dsimp only
  rw [h2, pullD_some ((b.natAbs : Int).sign, (dg (b.natAbs : Int).natAbs).length, (dg (b.natAbs : Int).natAbs).map iD) (by rfl) (by rfl)]
  dsimp only
  have hg := gcd_go a.sign (dg a.natAbs).length ((dg a.natAbs).map iD) b.sign (dg b.natAbs).length ((dg b.natAbs).map iD) (a.natAbs : Int).sign (dg (a.natAbs : Int).natAbs).length ((dg (a.natAbs : Int).natAbs).map iD) (b.natAbs : Int).sign (dg (b.natAbs : Int).natAbs).length ((dg (b.natAbs : Int).natAbs).map iD) b.natAbs a.natAbs ha hb
  rw [eD_cells (a.natAbs : Int), eD_cells (b.natAbs : Int)] at hg
  simp only [List.cons_append, List.nil_append] at hg
  rw [hg, bindL_some rfl, if_pos rfl, pullD_some (((Nat.gcd a.natAbs b.natAbs : Nat) : Int).sign, (dg ((Nat.gcd a.natAbs b.natAbs : Nat) : Int).natAbs).length, (dg ((Nat.gcd a.natAbs b.natAbs : Nat) : Int).natAbs).map iD, (0 : Int).sign, (dg (0 : Int).natAbs).length, (dg (0 : Int).natAbs).map iD) (by rfl) (by rfl)]
  rfl
theorem nd_neg (a : Int) : nd (-a) = nd a := by unfold nd; rw [Int.natAbs_neg]
theorem nd_mono {a b : Int} (h : a.natAbs ≤ b.natAbs) : nd a ≤ nd b := dg_len_mono h
theorem one_w : m_121 [.one (.int .i64 1)] = some (.agg [iD (1 : Int).sign, .list (dg (1 : Int).natAbs).length ((dg (1 : Int).natAbs).map iD)]) := of_eq 1 (by decide) (by decide)
theorem nd_one : nd 1 ≤ 1 := dg_len_le (by decide)
/-- A fraction in lowest terms, out of parts of which the lower one is above 0. -/
theorem low_parts (n d : Int) (hd : 0 < d) : (Rat.divInt n d).num = n / ((Int.gcd n d : Nat) : Int) ∧ ((Rat.divInt n d).den : Int) = d / ((Int.gcd n d : Nat) : Int) := by
  refine ⟨?_, ?_⟩
  · rw [Rat.num_divInt, Int.sign_eq_one_of_pos hd, Int.one_mul, Int.gcd_comm]
  · rw [Rat.den_divInt, if_neg (by omega), Int.gcd_comm]
    obtain ⟨k, rfl⟩ : ∃ k : Nat, d = (k : Int) := ⟨d.natAbs, by omega⟩
    simp
theorem make_eq (n d : Int) (hd : d ≠ 0) (hn : nd n ≤ 10000000) (hdd : nd d ≤ 10000000) : m_124 [wD n, wD d] = some (rD (Rat.divInt n d)) := by
  rw [wD_cells n, wD_cells d, m_124_eq]
  unfold w_make_M
  have hsg := sign_eq d
  rw [wD_cells d] at hsg
  rw [hsg, pullI]
  have sd := sign_cases d
  have core : ∀ n d : Int, 0 < d → nd n ≤ 10000000 → nd d ≤ 10000000 → ∃ g : Nat, 0 < g ∧ m_148 [wD n, wD d] = some (wD (g : Int)) ∧ m_126 [wD (g : Int), wD 1] = some (iD ((g : Int) - 1).sign) ∧ m_149 [wD n, wD (g : Int)] = some (wD (Rat.divInt n d).num) ∧ m_149 [wD d, wD (g : Int)] = some (wD ((Rat.divInt n d).den : Int)) ∧ (g = 1 → (Rat.divInt n d).num = n ∧ ((Rat.divInt n d).den : Int) = d) := by
    intro n d hd hn hdd
    obtain ⟨p1, p2⟩ := low_parts n d hd
    have hg0 : 0 < Int.gcd n d := Int.gcd_pos_of_ne_zero_right _ (by omega)
    have hgl : (dg (Int.gcd n d)).length ≤ 10000000 := by
      have h1 : Int.gcd n d ≤ d.natAbs := Nat.le_of_dvd (by omega) (Int.gcd_dvd_natAbs_right n d)
      exact Nat.le_trans (dg_len_mono h1) hdd
    refine ⟨Int.gcd n d, hg0, gcd_eq n d hn hdd, cmp_eq _ _ (by unfold nd; rw [Int.natAbs_natCast]; omega) (by have := nd_one; omega), ?_, ?_, fun h1 => ?_⟩
    · rw [p1]; exact floor_eq n _ hg0 hn hgl
    · rw [p2]; exact floor_eq d _ hg0 hdd hgl
    · rw [p1, p2, h1]; simp
  have csign : ∀ g : Nat, 0 < g → (((g : Int) - 1).sign = 0 ↔ g = 1) := fun g hg => by
    rw [Int.sign_eq_zero_iff_zero]; omega
  by_cases h : d.sign < 0
  · have hn' := neg_eq n
    have hd' := neg_eq d
    rw [wD_cells n] at hn'
    rw [wD_cells d] at hd'
    obtain ⟨g, g0, g1, g2, g3, g4, g5⟩ := core (-n) (-d) (by omega) (by rw [nd_neg]; exact hn) (by rw [nd_neg]; exact hdd)
    rw [show Rat.divInt (-n) (-d) = Rat.divInt n d from by rw [Rat.divInt_eq_divInt_iff (by omega) hd]; grind] at g3 g4 g5
    rw [if_pos h, hn', pullD_some ((-n).sign, (dg (-n).natAbs).length, (dg (-n).natAbs).map iD) (by rfl) (by rfl)]
    dsimp only
    rw [hd', pullD_some ((-d).sign, (dg (-d).natAbs).length, (dg (-d).natAbs).map iD) (by rfl) (by rfl)]
    dsimp only
    rw [← wD_cells (-n), ← wD_cells (-d), g1, pullD_some ((g : Int).sign, (dg (g : Int).natAbs).length, (dg (g : Int).natAbs).map iD) (by rfl) (by rfl)]
    dsimp only
    rw [one_w, pullD_some ((1 : Int).sign, (dg (1 : Int).natAbs).length, (dg (1 : Int).natAbs).map iD) (by rfl) (by rfl)]
    dsimp only
    rw [← wD_cells (g : Int), ← wD_cells 1, g2, pullI]
    by_cases hg : g = 1
    · rw [if_pos ((csign g g0).2 hg), rD_cells, (g5 hg).1, (g5 hg).2]
    · rw [if_neg (fun h => hg ((csign g g0).1 h)), g3, pullD_some ((Rat.divInt n d).num.sign, (dg (Rat.divInt n d).num.natAbs).length, (dg (Rat.divInt n d).num.natAbs).map iD) (by rfl) (by rfl)]
      dsimp only
      rw [g4, pullD_some (((Rat.divInt n d).den : Int).sign, (dg ((Rat.divInt n d).den : Int).natAbs).length, (dg ((Rat.divInt n d).den : Int).natAbs).map iD) (by rfl) (by rfl)]
      rfl
  · obtain ⟨g, g0, g1, g2, g3, g4, g5⟩ := core n d (by omega) hn hdd
    rw [if_neg h, ← wD_cells n, ← wD_cells d, g1, pullD_some ((g : Int).sign, (dg (g : Int).natAbs).length, (dg (g : Int).natAbs).map iD) (by rfl) (by rfl)]
    dsimp only
    rw [one_w, pullD_some ((1 : Int).sign, (dg (1 : Int).natAbs).length, (dg (1 : Int).natAbs).map iD) (by rfl) (by rfl)]
    dsimp only
    rw [← wD_cells (g : Int), ← wD_cells 1, g2, pullI]
    by_cases hg : g = 1
    · rw [if_pos ((csign g g0).2 hg), rD_cells, (g5 hg).1, (g5 hg).2]
    · rw [if_neg (fun h => hg ((csign g g0).1 h)), g3, pullD_some ((Rat.divInt n d).num.sign, (dg (Rat.divInt n d).num.natAbs).length, (dg (Rat.divInt n d).num.natAbs).map iD) (by rfl) (by rfl)]
      dsimp only
      rw [g4, pullD_some (((Rat.divInt n d).den : Int).sign, (dg ((Rat.divInt n d).den : Int).natAbs).length, (dg ((Rat.divInt n d).den : Int).natAbs).map iD) (by rfl) (by rfl)]
      rfl
end Go.Proofs.Ytlnolhhoakmdhaa
/- Fractions: of numbers, compared, multiplied, divided. -/
namespace Go.Proofs.Ytlnolhhoakmdhaa
open Go.Ev Go.RowKit
set_option maxRecDepth 100000
theorem nd_len {z : Int} {k : Nat} (h : z.natAbs < 1000000000 ^ k) : nd z ≤ k := dg_len_le h
theorem nd_lt (z : Int) : z.natAbs < 1000000000 ^ nd z := lt_of_dg_len _
theorem nd_mul (a b : Int) : nd (a * b) ≤ nd a + nd b := nd_len (by
  rw [Int.natAbs_mul, Nat.pow_add]
  have h1 := nd_lt a
  have h2 := nd_lt b
  rcases Nat.eq_zero_or_pos b.natAbs with h | h
  · rw [h, Nat.mul_zero]; exact Nat.mul_pos (Nat.pow_pos (by decide)) (Nat.pow_pos (by decide))
  · exact Nat.lt_of_lt_of_le (Nat.mul_lt_mul_of_pos_right h1 h) (Nat.mul_le_mul_left _ (Nat.le_of_lt h2)))
theorem nd_i64 {n : Int} (h1 : -9223372036854775808 < n) (h2 : n < 9223372036854775808) : nd n ≤ 3 := nd_len (by omega)
/-- The parts of a fraction have so many digits at most. -/
structure SQ (k : Nat) (q : Rat) : Prop where
  num : nd q.num ≤ k
  den : nd (q.den : Int) ≤ k
theorem SQ.mono {k l : Nat} {q : Rat} (h : SQ k q) (hl : k ≤ l) : SQ l q := ⟨Nat.le_trans h.num hl, Nat.le_trans h.den hl⟩
theorem natAbs_ediv_le (a b : Int) (hb : 0 < b) : (a / b).natAbs ≤ a.natAbs := by
  rcases Int.lt_or_le a 0 with h | h
  · have h2 : a ≤ a / b := by
      have := Int.ediv_mul_le a (show b ≠ 0 by omega)
      have h3 : a / b < 0 := Int.ediv_neg_of_neg_of_pos h hb
      have : a / b * b ≤ a / b * 1 := Int.mul_le_mul_of_nonpos_left (by omega) (by omega)
      have h4 := Int.lt_ediv_add_one_mul_self a hb
      have h5 : (a / b + 1) * b ≤ (a / b + 1) * 1 := Int.mul_le_mul_of_nonpos_left (by omega) (by omega)
      omega
    have h3 : a / b < 0 := Int.ediv_neg_of_neg_of_pos h hb
    omega
  · have h2 : 0 ≤ a / b := Int.ediv_nonneg h (by omega)
    have h3 : a / b ≤ a := Int.ediv_le_self b h
    omega
theorem SQ.divInt {n d : Int} (hd : d ≠ 0) {k : Nat} (hn : nd n ≤ k) (hdd : nd d ≤ k) : SQ k (Rat.divInt n d) := by
  have core : ∀ n d : Int, 0 < d → nd n ≤ k → nd d ≤ k → SQ k (Rat.divInt n d) := fun n d hd hn hdd => by
    obtain ⟨p1, p2⟩ := low_parts n d hd
    have hg0 : 0 < Int.gcd n d := Int.gcd_pos_of_ne_zero_right _ (by omega)
    refine ⟨?_, ?_⟩
    · rw [p1]; exact Nat.le_trans (nd_mono (natAbs_ediv_le _ _ (by omega))) hn
    · rw [p2]; exact Nat.le_trans (nd_mono (natAbs_ediv_le _ _ (by omega))) hdd
  rcases Int.lt_or_gt_of_ne hd with h | h
  · rw [← Rat.neg_divInt_neg]
    exact core (-n) (-d) (by omega) (by rw [nd_neg]; exact hn) (by rw [nd_neg]; exact hdd)
  · exact core n d h hn hdd
theorem SQ.int {n : Int} {k : Nat} (hn : nd n ≤ k) (hk : 1 ≤ k) : SQ k (n : Rat) := ⟨by rw [Rat.num_intCast]; exact hn, by
  rw [Rat.den_intCast]; exact Nat.le_trans nd_one hk⟩
theorem mul_parts (p q : Rat) : Rat.divInt (p.num * q.num) ((p.den : Int) * (q.den : Int)) = p * q := by
  rw [← Rat.divInt_mul_divInt, Rat.num_divInt_den, Rat.num_divInt_den]
theorem den_pos' (q : Rat) : (0 : Int) < (q.den : Int) := by have := q.den_pos; omega
theorem SQ.mul {p q : Rat} {k l : Nat} (hp : SQ k p) (hq : SQ l q) : SQ (k + l) (p * q) := by
  rw [← mul_parts]
  exact SQ.divInt (Int.ne_of_gt (Int.mul_pos (den_pos' p) (den_pos' q))) (Nat.le_trans (nd_mul _ _) (Nat.add_le_add hp.num hq.num)) (Nat.le_trans (nd_mul _ _) (Nat.add_le_add hp.den hq.den))
/-! ### The functions -/
theorem rOf_eq (n d : Int) (hd : d ≠ 0) (n1 : -9223372036854775808 < n) (n2 : n < 9223372036854775808) (d1 : -9223372036854775808 < d) (d2 : d < 9223372036854775808) : m_123 [iD n, iD d] = some (rD (Rat.divInt n d)) := by
  rw [m_123_eq]
  unfold w_rOf_M
  have h1 := nd_i64 n1 n2
  have h2 := nd_i64 d1 d2
  have e1 := of_eq n n1 n2
  have e2 := of_eq d d1 d2
  rw [e1, pullD_some (n.sign, (dg n.natAbs).length, (dg n.natAbs).map iD) (by rfl) (by rfl)]
  dsimp only
  rw [e2, pullD_some (d.sign, (dg d.natAbs).length, (dg d.natAbs).map iD) (by rfl) (by rfl)]
  dsimp only
  rw [← wD_cells n, ← wD_cells d, make_eq n d hd (by omega) (by omega)]
  generalize Rat.divInt n d = q
  rw [pullD_some (q.num.sign, (dg q.num.natAbs).length, (dg q.num.natAbs).map iD, (q.den : Int).sign, (dg (q.den : Int).natAbs).length, (dg (q.den : Int).natAbs).map iD) (by rfl) (by rfl)]
  rfl
theorem rInt_eq (n : Int) (n1 : -9223372036854775808 < n) (n2 : n < 9223372036854775808) : m_67 [iD n] = some (rD (n : Rat)) := by
  rw [m_67_eq]
  unfold w_rInt_M
  have e1 := of_eq n n1 n2
  rw [e1, pullD_some (n.sign, (dg n.natAbs).length, (dg n.natAbs).map iD) (by rfl) (by rfl)]
  dsimp only
  rw [one_w, pullD_some ((1 : Int).sign, (dg (1 : Int).natAbs).length, (dg (1 : Int).natAbs).map iD) (by rfl) (by rfl)]
  rw [rD_cells, Rat.num_intCast, Rat.den_intCast]
  rfl
theorem rFrom_eq (n d : Int) (hd : d ≠ 0) (n1 : -9223372036854775808 < n) (n2 : n < 9223372036854775808) (d1 : -9223372036854775808 < d) (d2 : d < 9223372036854775808) : m_69 [.agg [iD n, iD d]] = some (rD (Rat.divInt n d)) := by
  rw [m_69_eq]
  unfold w_rFrom_M
  have e := rOf_eq n d hd n1 n2 d1 d2
  rw [e]
  generalize Rat.divInt n d = q
  rw [pullD_some (q.num.sign, (dg q.num.natAbs).length, (dg q.num.natAbs).map iD, (q.den : Int).sign, (dg (q.den : Int).natAbs).length, (dg (q.den : Int).natAbs).map iD) (by rfl) (by rfl)]
  rfl
/-- Which of two fractions is greater. -/
def cmpQ (p q : Rat) : Int := (p.num * (q.den : Int) - q.num * (p.den : Int)).sign
theorem cmpQ_le (p q : Rat) : cmpQ p q ≤ 0 ↔ p ≤ q := by
  unfold cmpQ
  rw [Rat.le_iff]
  have := sign_cases (p.num * (q.den : Int) - q.num * (p.den : Int))
  omega
theorem rCmp_eq (p q : Rat) (k l : Nat) (hp : SQ k p) (hq : SQ l q) (hk : k + l ≤ 10000000) : m_71 [rD p, rD q] = some (iD (cmpQ p q)) := by
  rw [rD_cells p, rD_cells q, m_71_eq]
  unfold w_rCmp_M
  have := hp.num
  have := hp.den
  have := hq.num
  have := hq.den
  have m1 := mul_eq p.num (q.den : Int) (by omega)
  have m2 := mul_eq q.num (p.den : Int) (by omega)
  have l1 := nd_mul p.num (q.den : Int)
  have l2 := nd_mul q.num (p.den : Int)
  rw [← wD_cells p.num, ← wD_cells (q.den : Int), ← wD_cells q.num, ← wD_cells (p.den : Int), m1, pullD_some ((p.num * (q.den : Int)).sign, (dg (p.num * (q.den : Int)).natAbs).length, (dg (p.num * (q.den : Int)).natAbs).map iD) (by rfl) (by rfl)]
  dsimp only
  rw [m2, pullD_some ((q.num * (p.den : Int)).sign, (dg (q.num * (p.den : Int)).natAbs).length, (dg (q.num * (p.den : Int)).natAbs).map iD) (by rfl) (by rfl)]
  dsimp only
  rw [← wD_cells (p.num * (q.den : Int)), ← wD_cells (q.num * (p.den : Int)), cmp_eq _ _ (by omega) (by omega), pullI]
  rfl
theorem rMul_eq (p q : Rat) (k l : Nat) (hp : SQ k p) (hq : SQ l q) (hk : k + l ≤ 10000000) : m_70 [rD p, rD q] = some (rD (p * q)) := by
  rw [rD_cells p, rD_cells q, m_70_eq]
  unfold w_rMul_M
  have := hp.num
  have := hp.den
  have := hq.num
  have := hq.den
  have m1 := mul_eq p.num q.num (by omega)
  have m2 := mul_eq (p.den : Int) (q.den : Int) (by omega)
  have l1 := nd_mul p.num q.num
  have l2 := nd_mul (p.den : Int) (q.den : Int)
  have hd : (p.den : Int) * (q.den : Int) ≠ 0 := Int.ne_of_gt (Int.mul_pos (den_pos' p) (den_pos' q))
  rw [← wD_cells p.num, ← wD_cells (q.den : Int), ← wD_cells q.num, ← wD_cells (p.den : Int), m1, pullD_some ((p.num * q.num).sign, (dg (p.num * q.num).natAbs).length, (dg (p.num * q.num).natAbs).map iD) (by rfl) (by rfl)]
  dsimp only
  rw [m2, pullD_some (((p.den : Int) * (q.den : Int)).sign, (dg ((p.den : Int) * (q.den : Int)).natAbs).length, (dg ((p.den : Int) * (q.den : Int)).natAbs).map iD) (by rfl) (by rfl)]
  dsimp only
  rw [← wD_cells (p.num * q.num), ← wD_cells ((p.den : Int) * (q.den : Int)), make_eq _ _ hd (by omega) (by omega), mul_parts]
  generalize p * q = r
  rw [pullD_some (r.num.sign, (dg r.num.natAbs).length, (dg r.num.natAbs).map iD, (r.den : Int).sign, (dg (r.den : Int).natAbs).length, (dg (r.den : Int).natAbs).map iD) (by rfl) (by rfl)]
  rfl
end Go.Proofs.Ytlnolhhoakmdhaa
/- Faults, peaks, forces: what the functions give. -/
namespace Go.Proofs.Ytlnolhhoakmdhaa
open Go.Ev Go.RowKit
set_option maxRecDepth 100000
/-! ### Divisors -/
/-- Where the division with a remainder ends. -/
def eu (a b : Int) : Int := if h : b = 0 then a else eu b (a.tmod b)
termination_by b.natAbs
decreasing_by
  rw [Int.natAbs_tmod]
  exact Nat.mod_lt _ (by omega)
theorem eu_zero (a : Int) : eu a 0 = a := by unfold eu; simp
theorem eu_step {a b : Int} (h : b ≠ 0) : eu a b = eu b (a.tmod b) := by
  conv => lhs; unfold eu
  rw [dif_neg h]
theorem eu_gcd (a b : Int) : (eu a b).natAbs = Int.gcd a b := by
  generalize hk : b.natAbs = k
  induction k using Nat.strongRecOn generalizing a b with
  | ind k ih =>
    by_cases h : b = 0
    · subst h; rw [eu_zero]; simp
    · have hlt : (a.tmod b).natAbs < b.natAbs := by rw [Int.natAbs_tmod]; exact Nat.mod_lt _ (by omega)
      rw [eu_step h, ih _ (by omega) b (a.tmod b) rfl]
      show Nat.gcd b.natAbs (a.tmod b).natAbs = Nat.gcd a.natAbs b.natAbs
      rw [Int.natAbs_tmod, Nat.gcd_comm a.natAbs, Nat.gcd_rec b.natAbs a.natAbs, Nat.gcd_comm]
def absW (r : Int) : Int := if IntKind.i64.wrap (0 - r) > r then IntKind.i64.wrap (0 - r) else r
theorem absW_eq {r : Int} (h : r.natAbs < 9223372036854775808) : absW r = (r.natAbs : Int) := by
  unfold absW
  rw [wrapI _ (by omega) (by omega)]
  split <;> omega
theorem div_go (x y : Int) : ∀ (k : Nat) (a b : Int), b.natAbs ≤ k → runR (divisor_L1_S x y) (.next 0 [iD a, iD b]) = some (.out 0 [iD (eu a b)]) := by
  intro k
  induction k with
  | zero =>
    intro a b h
    have hb : b = 0 := by omega
    subst hb
    refine runR_exit ?_
    show divisor_L1_S0 x y _ = _
    unfold divisor_L1_S0
    rw [pullD_some (a, (0 : Int)) (by rfl) (by rfl)]
    dsimp only
    rw [if_neg (by simp), eu_zero]
  | succ k ih =>
    intro a b h
    by_cases hb : b = 0
    · exact ih a b (by omega)
    · have st : divisor_L1_S x y (.next 0 [iD a, iD b]) = some (.next 0 [iD b, iD (a.tmod b)]) := by
        show divisor_L1_S0 x y _ = _
        unfold divisor_L1_S0
        rw [pullD_some (a, b) (by rfl) (by rfl)]
        dsimp only
        rw [if_pos hb]
      have hlt : (a.tmod b).natAbs < b.natAbs := by rw [Int.natAbs_tmod]; exact Nat.mod_lt _ (by omega)
      rw [runR_next st, ih b (a.tmod b) (by omega), ← eu_step hb]
theorem divisor_eq (a b : Int) : m_137 [iD a, iD b] = some (iD (absW (eu a b))) := by
  rw [m_137_eq]
  unfold divisor_M
  rw [div_go a b b.natAbs a b (Nat.le_refl _), bindL_some rfl, if_pos rfl, pullD_some (eu a b) (by rfl) (by rfl)]
  rfl
theorem gcd_loop (x y : Int) : ∀ (k : Nat) (a b : Int), b.natAbs ≤ k → runR (gcd_L1_S x y) (.next 0 [iD a, iD b]) = some (.out 0 [iD (eu a b)]) := by
  intro k
  induction k with
  | zero =>
    intro a b h
    have hb : b = 0 := by omega
    subst hb
    refine runR_exit ?_
    show gcd_L1_S0 x y _ = _
    unfold gcd_L1_S0
    rw [pullD_some (a, (0 : Int)) (by rfl) (by rfl)]
    dsimp only
    rw [if_neg (by simp), eu_zero]
  | succ k ih =>
    intro a b h
    by_cases hb : b = 0
    · exact ih a b (by omega)
    · have st : gcd_L1_S x y (.next 0 [iD a, iD b]) = some (.next 0 [iD b, iD (a.tmod b)]) := by
        show gcd_L1_S0 x y _ = _
        unfold gcd_L1_S0
        rw [pullD_some (a, b) (by rfl) (by rfl)]
        dsimp only
        rw [if_pos hb]
      have hlt : (a.tmod b).natAbs < b.natAbs := by rw [Int.natAbs_tmod]; exact Nat.mod_lt _ (by omega)
      rw [runR_next st, ih b (a.tmod b) (by omega), ← eu_step hb]
theorem gcdI_eq (a b : Int) : m_106 [iD a, iD b] = some (iD (absW (eu a b))) := by
  rw [m_106_eq]
  unfold gcd_M
  rw [gcd_loop a b b.natAbs a b (Nat.le_refl _), bindL_some rfl, if_pos rfl, pullD_some (eu a b) (by rfl) (by rfl), m_91_eq]
  unfold size_M
  rw [pullI]
  rfl
theorem absW_gcd {a b : Int} (h : 0 < b) (h2 : b < 9223372036854775808) : absW (eu a b) = ((Int.gcd a b : Nat) : Int) := by
  have h1 : Int.gcd a b ≤ b.natAbs := Nat.le_of_dvd (by omega) (Int.gcd_dvd_natAbs_right a b)
  rw [absW_eq (by rw [eu_gcd]; omega), eu_gcd]
theorem tdiv_gcd {a b g : Int} (hg : 0 < g) (h : g ∣ a) (_ : b = b) : a.tdiv g = a / g := by
  obtain ⟨k, rfl⟩ := h
  rw [Int.mul_tdiv_cancel_left _ (by omega), Int.mul_ediv_cancel_left _ (by omega)]
theorem low_bounds {n d : Int} (hd : 0 < d) : (n / ((Int.gcd n d : Nat) : Int)).natAbs ≤ n.natAbs ∧ (d / ((Int.gcd n d : Nat) : Int)).natAbs ≤ d.natAbs := by
  have hg0 : 0 < Int.gcd n d := Int.gcd_pos_of_ne_zero_right _ (by omega)
  exact ⟨natAbs_ediv_le _ _ (by omega), natAbs_ediv_le _ _ (by omega)⟩
theorem reduced_eq (n d : Int) (hd : 0 < d) (h1 : n.natAbs < 9223372036854775808) (h2 : d < 9223372036854775808) : m_119 [iD n, iD d] = some (.agg [iD (Rat.divInt n d).num, iD ((Rat.divInt n d).den : Int)]) := by
  obtain ⟨p1, p2⟩ := low_parts n d hd
  obtain ⟨b1, b2⟩ := low_bounds (n := n) hd
  have hg0 : 0 < Int.gcd n d := Int.gcd_pos_of_ne_zero_right _ (by omega)
  rw [m_119_eq]
  unfold reduced_M
  rw [divisor_eq, pullI, absW_gcd hd h2, guardP_pos (by omega), tdiv_gcd (b := 0) (by omega) (Int.gcd_dvd_left n d) rfl, tdiv_gcd (b := 0) (by omega) (Int.gcd_dvd_right n d) rfl, wrapI _ (by omega) (by omega), wrapI _ (by omega) (by omega), p1, p2]
theorem lowest_eq (n d : Int) (hd : 0 < d) (h1 : n.natAbs < 9223372036854775808) (h2 : d < 9223372036854775808) : m_104 [iD n, iD d] = some (.agg [iD (Rat.divInt n d).num, iD ((Rat.divInt n d).den : Int)]) := by
  obtain ⟨p1, p2⟩ := low_parts n d hd
  obtain ⟨b1, b2⟩ := low_bounds (n := n) hd
  have hg0 : 0 < Int.gcd n d := Int.gcd_pos_of_ne_zero_right _ (by omega)
  rw [m_104_eq]
  unfold lowest_M
  rw [gcdI_eq, pullI, absW_gcd hd h2, if_neg (by omega), guardP_pos (by omega), tdiv_gcd (b := 0) (by omega) (Int.gcd_dvd_left n d) rfl, tdiv_gcd (b := 0) (by omega) (Int.gcd_dvd_right n d) rfl, wrapI _ (by omega) (by omega), wrapI _ (by omega) (by omega), p1, p2]
theorem within_eq (n lo hi : Int) : m_30 [iD n, iD lo, iD hi] = some (.one (.bool (decide (lo ≤ n ∧ n ≤ hi)))) := by
  rw [m_30_eq]
  unfold w_within_M
  by_cases h : lo ≤ n
  · rw [if_pos h]; simp [h]
  · rw [if_neg h]; simp [h]
/-! ### Errors -/
def firstV : List Int → Int
  | [] => 0
  | x :: l => if x = 0 then firstV l else x
theorem first_go (k : Nat) : ∀ (pre l : List Int), k = (pre ++ l).length → k ≤ 1000000 → (∀ x ∈ pre, x = 0) →
    runR (firstOf_L2_S k ((pre ++ l).map iD)) (.next 0 [iD (pre.length : Int)]) = some (if firstV l = 0 then .out 0 [] else .out 1 [iD (firstV l)]) := by
  intro pre l
  induction l generalizing pre with
  | nil =>
    intro hk _ _
    rw [List.append_nil] at hk ⊢
    refine runR_exit ?_
    show firstOf_L2_S0 _ _ _ = _
    unfold firstOf_L2_S0
    rw [pullD_some (pre.length : Int) (by rfl) (by rfl), if_neg (by omega)]
  | cons x l ih =>
    intro hk hs hp
    have hg : (pre ++ x :: l)[pre.length]? = some x := by simp
    have hlt : pre.length < k := by rw [hk, List.length_append, List.length_cons]; omega
    by_cases hx : x = 0
    · have st : firstOf_L2_S k ((pre ++ x :: l).map iD) (.next 0 [iD (pre.length : Int)]) = some (.next 0 [iD (((pre ++ [x]).length : Nat) : Int)]) := by
        show firstOf_L2_S0 _ _ _ = _
        unfold firstOf_L2_S0
        rw [pullD_some (pre.length : Int) (by rfl) (by rfl), if_pos (by omega), guardP_pos (by omega), readW hg, pullI, if_neg (by simp [hx]), wrapI _ (by omega) (by omega), List.length_append, List.length_singleton]
        rfl
      have h2 := ih (pre ++ [x]) (by rw [hk]; simp) hs (fun y hy => by
        rcases List.mem_append.1 hy with h | h
        · exact hp y h
        · simp at h; rw [h]; exact hx)
      rw [List.append_assoc, List.singleton_append] at h2
      rw [runR_next st, h2]
      simp [firstV, hx]
    · refine (runR_exit (j := 1) (es := [iD x]) ?_).trans ?_
      · show firstOf_L2_S0 _ _ _ = _
        unfold firstOf_L2_S0
        rw [pullD_some (pre.length : Int) (by rfl) (by rfl), if_pos (by omega), guardP_pos (by omega), readW hg, pullI, if_pos hx]
      · simp [firstV, hx]
theorem firstOf_eq (l : List Int) (hl : l.length ≤ 1000000) : m_83 [lD l] = some (iD (firstV l)) := by
  have h := first_go l.length [] l rfl hl (fun _ h => by cases h)
  simp only [List.nil_append, List.length_nil] at h
  have h : runR (firstOf_L2_S l.length (l.map iD)) (.next 0 [.one (.int .i64 0)]) = some (if firstV l = 0 then .out 0 [] else .out 1 [iD (firstV l)]) := h
  rw [m_83_eq]
  unfold firstOf_M
  by_cases h0 : firstV l = 0
  · rw [if_pos h0] at h
    rw [bindL_some h, if_pos rfl, pullD_some () (by rfl) (by rfl), h0]
  · rw [if_neg h0] at h
    rw [bindL_some h, if_neg (by decide), if_pos rfl, pullD_some (firstV l) (by rfl) (by rfl)]
theorem inOrder2 (a b c d : Int) : m_102 [.list 2 [iD a, iD b, iD c, iD d]] = some (iD (if a > b ∨ c > d then 9 else 0)) := by
  rw [m_102_eq]
  unfold inOrder_M
  have r0 : readD [iD a, iD b, iD c, iD d] (((0 : Nat) : Int).toNat * 2) 2 true = some (.agg [iD a, iD b]) := by simp [readD]
  have r1 : readD [iD a, iD b, iD c, iD d] (((1 : Nat) : Int).toNat * 2) 2 true = some (.agg [iD c, iD d]) := by simp [readD]
  have s0 : inOrder_L2_S 2 [iD a, iD b, iD c, iD d] (.next 0 [iD ((0 : Nat) : Int)]) = some (if a > b then .out 1 [iD 9] else .next 0 [iD ((1 : Nat) : Int)]) := by
    show inOrder_L2_S0 _ _ _ = _
    unfold inOrder_L2_S0
    rw [pullD_some ((0 : Nat) : Int) (by rfl) (by rfl), if_pos (by decide), guardP_pos (by decide), r0, pullD_some (a, b) (by rfl) (by rfl)]
    dsimp only
    split <;> rfl
  have s1 : inOrder_L2_S 2 [iD a, iD b, iD c, iD d] (.next 0 [iD ((1 : Nat) : Int)]) = some (if c > d then .out 1 [iD 9] else .next 0 [iD ((2 : Nat) : Int)]) := by
    show inOrder_L2_S0 _ _ _ = _
    unfold inOrder_L2_S0
    rw [pullD_some ((1 : Nat) : Int) (by rfl) (by rfl), if_pos (by decide), guardP_pos (by decide), r1, pullD_some (c, d) (by rfl) (by rfl)]
    dsimp only
    split <;> rfl
  have s2 : inOrder_L2_S 2 [iD a, iD b, iD c, iD d] (.next 0 [iD ((2 : Nat) : Int)]) = some (.out 0 []) := by
    show inOrder_L2_S0 _ _ _ = _
    unfold inOrder_L2_S0
    rw [pullD_some ((2 : Nat) : Int) (by rfl) (by rfl), if_neg (by decide)]
  have h : runR (inOrder_L2_S 2 [iD a, iD b, iD c, iD d]) (.next 0 [.one (.int .i64 0)]) = some (if a > b ∨ c > d then .out 1 [iD 9] else .out 0 []) := by
    show runR _ (.next 0 [iD ((0 : Nat) : Int)]) = _
    by_cases h1 : a > b
    · rw [if_pos h1] at s0; rw [runR_exit s0, if_pos (.inl h1)]
    · rw [if_neg h1] at s0
      rw [runR_next s0]
      by_cases h2 : c > d
      · rw [if_pos h2] at s1; rw [runR_exit s1, if_pos (.inr h2)]
      · rw [if_neg h2] at s1; rw [runR_next s1, runR_exit s2, if_neg (by omega)]
  by_cases h1 : a > b ∨ c > d
  · rw [if_pos h1] at h ⊢
    rw [bindL_some h, if_neg (by decide), if_pos rfl, pullD_some (9 : Int) (by rfl) (by rfl)]
  · rw [if_neg h1] at h ⊢
    rw [bindL_some h, if_pos rfl, pullD_some () (by rfl) (by rfl)]
/-- Why a factor is refused. -/
def facE (n d : Int) : Int := if d ≤ 0 ∨ absW (eu n d) ≠ 1 then 3 else if n < 1 ∨ n > 100 ∨ d > 100 then 2 else 0
theorem chkFactor_eq (n d : Int) : m_103 [.agg [iD n, iD d]] = some (iD (facE n d)) := by
  rw [m_103_eq]
  unfold chkFactor_M facE
  rw [divisor_eq]
  simp only [pullI]
  repeat' split
  all_goals first | rfl | (exfalso; omega)
/-- Why a fault is refused. -/
def faultE (a b c d n m : Int) : Int := if a < 0 ∨ a > 1000 ∨ b < 0 ∨ b > 1000 ∨ c < 1 ∨ c > 1000 ∨ d < 1 ∨ d > 1000 then 2 else if a > b ∨ c > d then 9 else facE n m
theorem chkFault_eq (a b c d n m : Int) : m_43 [.agg [iD a, iD b, iD c, iD d, iD n, iD m]] = some (iD (faultE a b c d n m)) := by
  have f4 : ∀ x y z w : Int, m_83 [.list 4 [iD x, iD y, iD z, iD w]] = some (iD (firstV [x, y, z, w])) := fun x y z w => firstOf_eq [x, y, z, w] (by simp)
  rw [m_43_eq]
  unfold chkFault_M
  rw [inOrder2, chkFactor_eq]
  simp only [pullI, f4]
  unfold faultE
  repeat' split
  all_goals first
    | (simp only [firstV]; simp only [show (2 : Int) ≠ 0 by decide, if_false, if_true]; done)
    | (exfalso; omega)
    | (simp only [firstV]; simp_all)
theorem isLowest_eq (n d : Int) : m_47 [.agg [iD n, iD d]] = some (.one (.bool (decide (0 < d ∧ absW (eu n d) = 1)))) := by
  rw [m_47_eq]
  unfold isLowest_M
  rw [gcdI_eq, pullI]
  by_cases h : d > 0
  · rw [if_pos h]
    simp [show 0 < d from h]
    rw [Bool.eq_iff_iff]; simp
  · rw [if_neg h]
    simp [show ¬ 0 < d from h]
theorem faultErr_eq (a b c d n m : Int) : m_42 [.agg [iD a, iD b, iD c, iD d, iD n, iD m]] = some (iD (faultE a b c d n m)) := by
  rw [m_42_eq]
  unfold faultErr_M
  simp only [within_eq, isLowest_eq, pullB]
  unfold faultE facE
  repeat' split
  all_goals first
    | rfl
    | (exfalso; simp only [decide_eq_false_iff_not, decide_eq_true_eq, Bool.not_eq_false] at *; omega)
end Go.Proofs.Ytlnolhhoakmdhaa
/- Peaks, forces, answers. -/
namespace Go.Proofs.Ytlnolhhoakmdhaa
open Go.Ev Go.RowKit
set_option maxRecDepth 100000
theorem sq_le {x k : Int} (h0 : 0 ≤ x) (h : x ≤ k) : 0 ≤ x * x ∧ x * x ≤ k * k := ⟨Int.mul_nonneg h0 h0, Int.mul_le_mul h h h0 (by omega)⟩
theorem mul2_le {x y k l : Int} (h0 : 0 ≤ x) (h : x ≤ k) (g0 : 0 ≤ y) (g : y ≤ l) : 0 ≤ x * y ∧ x * y ≤ k * l := ⟨Int.mul_nonneg h0 g0, Int.mul_le_mul h g g0 (by omega)⟩
theorem int_divInt (l : Int) : (l : Rat) = Rat.divInt l 1 := by
  have := Rat.num_divInt_den (l : Rat)
  rw [Rat.num_intCast, Rat.den_intCast] at this
  exact this.symm
/-- A whole number times the square of a fraction. -/
theorem int_mul_sq (u n d : Int) : (u : Rat) * (Rat.divInt n d * Rat.divInt n d) = Rat.divInt (u * (n * n)) (d * d) := by
  rw [Rat.divInt_mul_divInt]
  have : (u : Rat) = Rat.divInt u 1 := int_divInt u
  rw [this, Rat.divInt_mul_divInt, Int.one_mul]
theorem divInt_le_int {x y l : Int} (hy : 0 < y) : Rat.divInt x y ≤ (l : Rat) ↔ x ≤ l * y := by
  have e : (l : Rat) = Rat.divInt (l * y) y := by
    have h1 : (l : Rat) = Rat.divInt l 1 := int_divInt l
    rw [h1, Rat.divInt_eq_divInt_iff (by decide) (by omega), Int.mul_one]
  have h2 : (l : Rat) - Rat.divInt x y = Rat.divInt ((l * y - x) * y) (y * y) := by
    rw [e, Rat.sub_eq_add_neg, Rat.neg_divInt, Rat.divInt_add_divInt _ _ (by omega) (by omega)]
    congr 1
    rw [Int.sub_mul, Int.neg_mul, Int.sub_eq_add_neg]
  rw [Rat.le_iff_sub_nonneg, h2, Rat.divInt_nonneg_iff_of_pos_right (Int.mul_pos hy hy)]
  constructor
  · intro h
    rcases Int.lt_or_le (l * y - x) 0 with h3 | h3
    · have := Int.mul_neg_of_neg_of_pos h3 hy
      omega
    · omega
  · intro h
    exact Int.mul_nonneg (by omega) (by omega)
/-- Rounded up. -/
theorem ceil_le {x y l : Int} (hy : 0 < y) : (x + y - 1) / y ≤ l ↔ x ≤ l * y := by
  rw [Int.ediv_le_iff_le_mul hy]
  omega
theorem roundedUp_eq (n d : Int) (hn : 0 ≤ n) (hd : 0 < d) (hb : n + d < 9223372036854775808) : m_154 [iD n, iD d] = some (iD ((n + d - 1) / d)) := by
  have h0 : 0 ≤ (n + d - 1) / d := Int.ediv_nonneg (by omega) (by omega)
  have h1 : (n + d - 1) / d ≤ n + d - 1 := Int.ediv_le_self _ (by omega)
  rw [m_154_eq]
  unfold roundedUp_M
  rw [guardP_pos (by omega), wrapI (n + d) (by omega) hb, wrapI (n + d - 1) (by omega) (by omega), Int.tdiv_eq_ediv_of_nonneg (by omega), wrapI _ (by omega) (by omega)]
/-- The force, rounded up. -/
def upF (u n d : Int) : Int := (u * (n * n) + d * d - 1) / (d * d)
theorem forceAt_eq (u n d : Int) (hu : 0 ≤ u) (hu2 : u ≤ 10000000) (hn : 0 ≤ n) (hn2 : n ≤ 100000) (hd : 0 < d) (hd2 : d ≤ 100000) : m_144 [iD u, .agg [iD n, iD d]] = some (iD (upF u n d)) := by
  have a1 := mul2_le hu hu2 hn hn2
  have a2 := sq_le hn hn2
  have a3 := mul2_le hu hu2 a2.1 a2.2
  have a4 := sq_le (by omega) hd2
  have a5 : 0 < d * d := Int.mul_pos hd hd
  rw [m_144_eq]
  unfold forceAt_M
  have e : u * n * n = u * (n * n) := Int.mul_assoc u n n
  rw [wrapI (u * n) (by omega) (by omega), wrapI (u * n * n) (by omega) (by omega), wrapI (d * d) (by omega) (by omega), e, roundedUp_eq _ _ a3.1 a5 (by omega), pullI]
  rfl
/-- A valid fault. -/
structure FaultOK (a b c d n m : Int) : Prop where
  a0 : 0 ≤ a
  ab : a ≤ b
  b1 : b ≤ 1000
  c0 : 1 ≤ c
  cd : c ≤ d
  d1 : d ≤ 1000
  n0 : 1 ≤ n
  n1 : n ≤ 100
  m0 : 1 ≤ m
  m1 : m ≤ 100
theorem fault_ok {a b c d n m : Int} (h : faultE a b c d n m = 0) : FaultOK a b c d n m := by
  unfold faultE facE at h
  split at h
  · cases h
  split at h
  · cases h
  split at h
  · cases h
  split at h
  · cases h
  constructor <;> omega
/-- A bound, and why it is so: parts of peaks. -/
theorem peak_parts {x y k l : Int} (hx0 : 0 ≤ x) (hx : x ≤ k) (hy0 : 0 < y) (hy : y ≤ l) : 0 ≤ (Rat.divInt x y).num ∧ (Rat.divInt x y).num ≤ k ∧ (0 : Int) < ((Rat.divInt x y).den : Int) ∧ ((Rat.divInt x y).den : Int) ≤ l := by
  obtain ⟨p1, p2⟩ := low_parts x y hy0
  obtain ⟨b1, b2⟩ := low_bounds (n := x) hy0
  have h0 : 0 ≤ (Rat.divInt x y).num := by rw [p1]; exact Int.ediv_nonneg hx0 (by omega)
  have h3 := den_pos' (Rat.divInt x y)
  rw [← p1] at b1
  rw [← p2] at b2
  exact ⟨h0, by omega, h3, by omega⟩
abbrev loQ (a d n m : Int) : Rat := Rat.divInt (a * n) (d * m)
structure PB (q : Rat) : Prop where
  n0 : 0 ≤ q.num
  n1 : q.num ≤ 100000
  d0 : (0 : Int) < (q.den : Int)
  d1 : (q.den : Int) ≤ 100000
theorem FaultOK.lo {a b c d n m : Int} (h : FaultOK a b c d n m) : PB (loQ a d n m) := by
  obtain ⟨a0, ab, b1, c0, cd, d1, n0, n1, m0, m1⟩ := h
  have e1 := mul2_le a0 (show a ≤ 1000 by omega) (show 0 ≤ n by omega) n1
  have e2 := mul2_le (show 0 ≤ d by omega) d1 (show 0 ≤ m by omega) m1
  have e3 : 0 < d * m := Int.mul_pos (by omega) (by omega)
  obtain ⟨x1, x2, x3, x4⟩ := peak_parts e1.1 e1.2 e3 e2.2
  exact ⟨x1, Int.le_trans x2 (by decide), x3, Int.le_trans x4 (by decide)⟩
theorem FaultOK.hi {a b c d n m : Int} (h : FaultOK a b c d n m) : PB (loQ b c n m) := by
  obtain ⟨a0, ab, b1, c0, cd, d1, n0, n1, m0, m1⟩ := h
  have e1 := mul2_le (show 0 ≤ b by omega) b1 (show 0 ≤ n by omega) n1
  have e2 := mul2_le (show 0 ≤ c by omega) (show c ≤ 1000 by omega) (show 0 ≤ m by omega) m1
  have e3 : 0 < c * m := Int.mul_pos (by omega) (by omega)
  obtain ⟨x1, x2, x3, x4⟩ := peak_parts e1.1 e1.2 e3 e2.2
  exact ⟨x1, Int.le_trans x2 (by decide), x3, Int.le_trans x4 (by decide)⟩
/-- The peak, as a value in depth. -/
abbrev pkD (a b c d n m : Int) : D := .agg [iD (loQ a d n m).num, iD ((loQ a d n m).den : Int), iD (loQ b c n m).num, iD ((loQ b c n m).den : Int)]
theorem prods {a b c d n m : Int} (h : FaultOK a b c d n m) : IntKind.i64.wrap (a * n) = a * n ∧ IntKind.i64.wrap (d * m) = d * m ∧ IntKind.i64.wrap (b * n) = b * n ∧ IntKind.i64.wrap (c * m) = c * m ∧ 0 < d * m ∧ 0 < c * m ∧ (a * n).natAbs < 9223372036854775808 ∧ (b * n).natAbs < 9223372036854775808 ∧ d * m < 9223372036854775808 ∧ c * m < 9223372036854775808 := by
  obtain ⟨a0, ab, b1, c0, cd, d1, n0, n1, m0, m1⟩ := h
  have e1 := mul2_le a0 (show a ≤ 1000 by omega) (show 0 ≤ n by omega) n1
  have e2 := mul2_le (show 0 ≤ d by omega) d1 (show 0 ≤ m by omega) m1
  have e3 : 0 < d * m := Int.mul_pos (by omega) (by omega)
  have f1 := mul2_le (show 0 ≤ b by omega) b1 (show 0 ≤ n by omega) n1
  have f2 := mul2_le (show 0 ≤ c by omega) (show c ≤ 1000 by omega) (show 0 ≤ m by omega) m1
  have f3 : 0 < c * m := Int.mul_pos (by omega) (by omega)
  exact ⟨wrapI _ (by omega) (by omega), wrapI _ (by omega) (by omega), wrapI _ (by omega) (by omega), wrapI _ (by omega) (by omega), e3, f3, by omega, by omega, by omega, by omega⟩
theorem peak_eq {a b c d n m : Int} (h : FaultOK a b c d n m) : m_99 [.agg [iD a, iD b, iD c, iD d, iD n, iD m]] = some (pkD a b c d n m) := by
  obtain ⟨w1, w2, w3, w4, p1, p2, q1, q2, q3, q4⟩ := prods h
  rw [m_99_eq]
  unfold peak_M
  rw [w1, w2, w3, w4, reduced_eq _ _ p1 q1 q3, pullD_some ((loQ a d n m).num, ((loQ a d n m).den : Int)) (by rfl) (by rfl)]
  dsimp only
  rw [reduced_eq _ _ p2 q2 q4, pullD_some ((loQ b c n m).num, ((loQ b c n m).den : Int)) (by rfl) (by rfl)]
theorem peakR_eq {a b c d n m : Int} (h : FaultOK a b c d n m) : m_44 [.agg [iD a, iD b, iD c, iD d, iD n, iD m]] = some (pkD a b c d n m) := by
  obtain ⟨w1, w2, w3, w4, p1, p2, q1, q2, q3, q4⟩ := prods h
  rw [m_44_eq]
  unfold peakR_M
  rw [w1, w2, w3, w4, lowest_eq _ _ p1 q1 q3, pullD_some ((loQ a d n m).num, ((loQ a d n m).den : Int)) (by rfl) (by rfl)]
  dsimp only
  rw [lowest_eq _ _ p2 q2 q4, pullD_some ((loQ b c n m).num, ((loQ b c n m).den : Int)) (by rfl) (by rfl)]
/-- A force at a current, exactly. -/
def forceQ (u : Int) (q : Rat) : Rat := (u : Rat) * (q * q)
theorem forceQ_le {u l : Int} {q : Rat} : forceQ u q ≤ (l : Rat) ↔ upF u q.num (q.den : Int) ≤ l := by
  unfold forceQ upF
  have h1 := int_mul_sq u q.num (q.den : Int)
  rw [Rat.num_divInt_den] at h1
  have hd : (0 : Int) < (q.den : Int) * (q.den : Int) := Int.mul_pos (den_pos' q) (den_pos' q)
  rw [h1, divInt_le_int hd, ceil_le hd]
/-- Whether what stands against forces holds. -/
def ansV (lo hi : Int) (u : Int) (ql qh : Rat) : Int := if upF u qh.num (qh.den : Int) ≤ lo then 2 else if hi < upF u ql.num (ql.den : Int) then 0 else 1
theorem answerOf_eq (a b c d : Int) : m_117 [.agg [iD a, iD b], .agg [iD c, iD d]] = some (iD (if d ≤ a then 2 else if b < c then 0 else 1)) := by
  rw [m_117_eq]
  unfold answerOf_M
  repeat' split
  all_goals first | rfl | (exfalso; omega)
theorem forces_eq {a b c d n m u : Int} (h : FaultOK a b c d n m) (hu : 0 ≤ u) (hu2 : u ≤ 10000000) : m_118 [.agg [iD a, iD b, iD c, iD d, iD n, iD m], iD u] = some (.agg [iD (upF u (loQ a d n m).num ((loQ a d n m).den : Int)), iD (upF u (loQ b c n m).num ((loQ b c n m).den : Int))]) := by
  rw [m_118_eq]
  unfold forces_M
  obtain ⟨l1, l2, l3, l4⟩ := h.lo
  obtain ⟨h1, h2, h3, h4⟩ := h.hi
  have hp : m_99 [shNF1_1 a b c d n m] = some (pkD a b c d n m) := peak_eq h
  rw [hp, pullD_some ((loQ a d n m).num, ((loQ a d n m).den : Int), (loQ b c n m).num, ((loQ b c n m).den : Int)) (by rfl) (by rfl)]
  dsimp only
  rw [forceAt_eq u _ _ hu hu2 l1 l2 l3 l4, pullI, forceAt_eq u _ _ hu hu2 h1 h2 h3 h4, pullI]
theorem SQ.of_pb {q : Rat} (h : PB q) : SQ 3 q := by
  obtain ⟨a, b, c, d⟩ := h
  exact ⟨nd_i64 (by omega) (by omega), nd_i64 (by omega) (by omega)⟩
theorem cmpForce_eq {u l : Int} {q : Rat} (hq : PB q) (hu : 0 ≤ u) (hu2 : u ≤ 10000000) (hl : -9223372036854775808 < l) (hl2 : l < 9223372036854775808) : m_105 [iD u, .agg [iD q.num, iD (q.den : Int)], iD l] = some (iD (cmpQ (forceQ u q) (l : Rat))) := by
  rw [m_105_eq]
  unfold cmpForce_M
  have hs := SQ.of_pb hq
  have hr : m_69 [.agg [iD q.num, iD (q.den : Int)]] = some (rD q) := by
    have hq := hq
    obtain ⟨a, b, c, d⟩ := hq
    have := rFrom_eq q.num (q.den : Int) (by omega) (by omega) (by omega) (by omega) (by omega)
    rwa [Rat.num_divInt_den] at this
  have hI : SQ 3 (u : Rat) := SQ.int (nd_i64 (by omega) (by omega)) (by decide)
  have hL : SQ 3 (l : Rat) := SQ.int (nd_i64 hl hl2) (by decide)
  have hqq := SQ.mul hs hs
  have hf := SQ.mul hI hqq
  rw [rInt_eq u (by omega) (by omega), pullD_some ((u : Rat).num.sign, (dg (u : Rat).num.natAbs).length, (dg (u : Rat).num.natAbs).map iD, ((u : Rat).den : Int).sign, (dg ((u : Rat).den : Int).natAbs).length, (dg ((u : Rat).den : Int).natAbs).map iD) (by rfl) (by rfl)]
  dsimp only
  rw [hr, pullD_some (q.num.sign, (dg q.num.natAbs).length, (dg q.num.natAbs).map iD, (q.den : Int).sign, (dg (q.den : Int).natAbs).length, (dg (q.den : Int).natAbs).map iD) (by rfl) (by rfl)]
  dsimp only
  rw [pullD_some (q.num.sign, (dg q.num.natAbs).length, (dg q.num.natAbs).map iD, (q.den : Int).sign, (dg (q.den : Int).natAbs).length, (dg (q.den : Int).natAbs).map iD) (by rfl) (by rfl)]
  dsimp only
  rw [← rD_cells q, rMul_eq q q 3 3 hs hs (by decide)]
  generalize hr2 : q * q = r
  rw [pullD_some (r.num.sign, (dg r.num.natAbs).length, (dg r.num.natAbs).map iD, (r.den : Int).sign, (dg (r.den : Int).natAbs).length, (dg (r.den : Int).natAbs).map iD) (by rfl) (by rfl)]
  dsimp only
  rw [hr2] at hqq hf
  rw [← rD_cells r, ← rD_cells (u : Rat), rMul_eq (u : Rat) r 3 6 hI hqq (by decide)]
  have e : forceQ u q = (u : Rat) * r := by unfold forceQ; rw [hr2]
  rw [e]
  generalize (u : Rat) * r = f at *
  rw [pullD_some (f.num.sign, (dg f.num.natAbs).length, (dg f.num.natAbs).map iD, (f.den : Int).sign, (dg (f.den : Int).natAbs).length, (dg (f.den : Int).natAbs).map iD) (by rfl) (by rfl)]
  dsimp only
  rw [rInt_eq l hl hl2]
  generalize (l : Rat) = g at *
  rw [pullD_some (g.num.sign, (dg g.num.natAbs).length, (dg g.num.natAbs).map iD, (g.den : Int).sign, (dg (g.den : Int).natAbs).length, (dg (g.den : Int).natAbs).map iD) (by rfl) (by rfl)]
  dsimp only
  rw [← rD_cells f, ← rD_cells g, rCmp_eq f g 9 3 hf hL (by decide), pullI]
end Go.Proofs.Ytlnolhhoakmdhaa
/- The stage's examples hold. -/
namespace Go.Proofs.Ytlnolhhoakmdhaa
open Go.Ev Go.RowKit
set_option maxRecDepth 100000
noncomputable section
theorem aw_all : Con 13 [] (.one (.bool true)) :=
  con_ofK (S := [(80, 3000041)]) (K := []) (sp := []) (n := 60000) (ora := []) (res := []) (conds := [(false, false), (false, false), (false, false), (false, false), (false, false), (false, false), (false, false), (false, false), (false, false), (false, false), (false, false), (false, false), (false, false), (false, false), (false, false), (false, false), (false, false), (false, false), (false, false), (false, false), (false, false), (false, false)]) (cls := [])
    (by kernel_rfl) ⟨rfl, rfl, rfl, rfl, rfl, rfl, rfl, rfl, rfl, rfl, rfl, rfl, rfl, rfl, rfl, rfl, rfl, rfl, rfl, rfl, rfl, rfl, trivial⟩ trivial
def m_13 (ds : List D) : Option D := pullD (some (.tup ds)) (fun _ => ()) (fun _ => .tup []) fun _ => some (.one (.bool true))
theorem m_13_ok {ds : List D} {r : D} (h : m_13 ds = some r) : Con 13 ds r := by
  unfold m_13 at h
  obtain ⟨⟨⟩, e0, h0⟩ := pullD_elim h
  obtain rfl := tup_inj e0
  obtain rfl := Option.some.inj h0
  exact aw_all
theorem m_13_eq : m_13 [] = some (.one (.bool true)) := pullD_some () rfl rfl
end
end Go.Proofs.Ytlnolhhoakmdhaa
namespace Go.Proofs.Ytlnolhhoakmdhaa
open Go.Ev Go.RowKit
set_option maxRecDepth 100000
set_option maxHeartbeats 8000000
set_option linter.all false
noncomputable section
end
end Go.Proofs.Ytlnolhhoakmdhaa
/- The law of currents. -/
namespace Go.Proofs.Ytlnolhhoakmdhaa
open Go.Ev Go.RowKit
set_option maxRecDepth 100000
def rngE (x lo hi : Int) : Int := if x < lo ∨ x > hi then 2 else 0
theorem chkUnit_eq (u : Int) : m_100 [iD u] = some (iD (rngE u 0 10000000)) := by
  rw [m_100_eq]
  unfold chkUnit_M rngE
  repeat' split
  all_goals first | rfl | (exfalso; omega)
theorem unitErr_eq (u : Int) : m_45 [iD u] = some (iD (rngE u 0 10000000)) := by
  rw [m_45_eq]
  unfold unitErr_M rngE
  rw [within_eq, pullB]
  repeat' split
  all_goals first | rfl | (exfalso; simp only [decide_eq_false_iff_not] at *; omega)
abbrev fD (a b c d n m : Int) : D := .agg [iD a, iD b, iD c, iD d, iD n, iD m]
theorem chkdFault_eq (a b c d n m : Int) : m_98 [fD a b c d n m] = some (if faultE a b c d n m ≠ 0 then .tup [fD 0 0 0 0 0 0, iD (faultE a b c d n m)] else .tup [fD a b c d n m, iD 0]) := by
  rw [m_98_eq]
  unfold chkdFault_M
  have h : m_43 [shNF1_1 a b c d n m] = _ := chkFault_eq a b c d n m
  rw [h, pullI]
  split <;> rfl
theorem f3 (x y z : Int) : m_83 [.list 3 [iD x, iD y, iD z]] = some (iD (firstV [x, y, z])) := firstOf_eq [x, y, z] (by simp)
end Go.Proofs.Ytlnolhhoakmdhaa
