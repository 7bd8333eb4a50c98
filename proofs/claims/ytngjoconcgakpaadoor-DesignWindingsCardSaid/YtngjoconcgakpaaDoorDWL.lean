/- Windings: the loops, as the law's run takes them. -/
import Derived.Test.YtngjoconcgakpaaDoorDX
import Derived.Test.YtngjoconcgakpaaDoorEVLP
set_option linter.unusedVariables false
set_option linter.unusedSimpArgs false
set_option linter.unusedSectionVars false
set_option linter.unnecessarySimpa false
namespace Go.Proofs.YtngjoconcgakpaaDoor
open Go.Ev Go.RowKit
set_option maxRecDepth 100000
noncomputable section
def firstLoop : Code → Option Code
  | .seq a b => match firstLoop a with
    | some c => some c
    | none => firstLoop b
  | .block _ b => firstLoop b
  | .loop b => some b
  | _ => none
def loopAt (g : Nat) : Code := match listGet Tryd.prog.funcs.toList g with
  | some f => match f.body with
    | some c => match firstLoop c with
      | some c => c
      | none => .skip
    | none => .skip
  | none => .skip
def putMany (tm : List AV) : List (Nat × AV) → List AV
  | [] => tm
  | (k, v) :: r => putMany (setT tm (some k) v) r
def anys (nx : Nat) : List Nat → List (Nat × AV)
  | [] => []
  | k :: ks => (k, .any nx) :: anys (nx + 1) ks
def J26 : List Nat := [6, 18, 19, 20, 21, 22, 23, 24, 25, 26, 27, 28, 29, 30, 31, 32, 33, 34, 35, 36, 37, 38, 39, 40, 41]
def J30 : List Nat := [5, 6, 7, 8, 9, 10, 11, 12, 13, 14, 15, 16, 17, 18, 19, 20, 21, 22, 23, 24, 25, 26, 27, 28, 29]
def J14 : List Nat := [11, 12, 13, 14, 15, 16, 17, 18, 19, 20, 21, 22, 23, 24, 25]
def J6 : List Nat := [83, 84, 85, 86, 87, 88, 89, 90, 91, 92, 93, 94, 95, 96, 97, 98, 99, 100, 101, 102, 103, 104]
def J32 : List Nat := [6, 11, 12, 14, 15, 16, 17, 18, 19, 20, 21, 22, 24]
/-- The turns of a disc. -/
def dsc (t d j : Nat) : Int := if j < t % d then (t / d : Nat) + 1 else (t / d : Nat)
def discs (t d n : Nat) : List Value := (List.range n).map fun j => .int .i64 (dsc t d j)
def iv (x : Int) : AV := .pure (.int .i64 x)
def wv (t d c g : Int) : AV := .pure (.agg #[.int .i64 t, .int .i64 d, .int .i64 c, .int .i64 g])
def blockAt (tm : List AV) (k : Nat) : Nat := match listGet tm k with
  | some x => match x with
    | .bsl n _ _ _ => n
    | _ => 0
  | none => 0
def LD (t d : Nat) (c g : Int) (m : Nat) (ln : Int) (f : FuncId) (_ : Code) (tm : List AV) (h : AHeap) (nx : Nat) : Option LoopEnd :=
  match Nat.beq f 26 with
  | true => some ⟨some 0, putMany tm ((17, iv d) :: anys nx J26), hput h (blockAt tm 5) ⟨[], none, .big (discs t d d)⟩, nx + 25, blockAt tm 5⟩
  | false => match Nat.beq f 30 with
    | true => some ⟨some 0, putMany tm ((3, .bslx (nx + 25) 0 d 0) :: (4, iv d) :: anys nx J30), (nx + 25, ⟨[], some 1, .big (discs t d d)⟩) :: h, nx + 26, nx⟩
    | false => match Nat.beq f 14 with
      | true => some ⟨some 0, putMany tm ((5, iv d) :: anys nx J14), h, nx + 15, nx⟩
      | false => match Nat.beq f 6 with
        | true => some ⟨some 0, putMany tm ((12, iv t) :: (13, iv d) :: anys nx J6), h, nx + 22, nx⟩
        | false => match Nat.beq f 32 with
          | true => some ⟨none, putMany tm ((2, iv m) :: (3, iv ln) :: (5, iv m) :: (13, wv t d c g) :: (23, wv t m c g) :: anys nx J32), h, nx + 13, nx⟩
          | false => none
end
end Go.Proofs.YtngjoconcgakpaaDoor
