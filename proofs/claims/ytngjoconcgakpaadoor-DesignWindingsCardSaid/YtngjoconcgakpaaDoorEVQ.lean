/- Running the program's functions on values that are known in part: what is equal to what, as a truth that is not decided. -/
import Derived.Test.YtngjoconcgakpaaDoorEVA
import Derived.ChangeKeysEq
set_option linter.unusedVariables false
set_option linter.unusedSimpArgs false
set_option linter.unusedSectionVars false
set_option linter.unnecessarySimpa false
namespace Go.Ev
noncomputable section

def infoA (P : Program) (t : TypeId) : Option TypeInfo := listGet P.types.toList t

def undA (P : Program) (t : TypeId) : Option TypeDesc := match infoA P t with
  | some i => match i.desc with
    | .named _ u => match infoA P u with
      | some j => some j.desc
      | none => none
    | d => some d
  | none => none

def sizeT (P : Program) (t : TypeId) : Option Nat := match infoA P t with
  | some i => some i.size
  | none => none

def aeqFields (E : TypeId → Value → Value → Option Bool) (P : Program) (xs ys : Array Value) : List Field → Option Bool
  | [] => some true
  | f :: fs => match decide (f.name = "_") with
    | true => aeqFields E P xs ys fs
    | false => match still P (part f.type xs f.offset), still P (part f.type ys f.offset) with
      | some a, some b => match E f.type a b, aeqFields E P xs ys fs with
        | some r, some c => some (r && c)
        | _, _ => none
      | _, _ => none

def aeqItems (E : TypeId → Value → Value → Option Bool) (P : Program) (e : TypeId) (size : Nat) (xs ys : Array Value) : List Nat → Option Bool
  | [] => some true
  | i :: is => match still P (part e xs (i * size)), still P (part e ys (i * size)) with
    | some a, some b => match E e a b, aeqItems E P e size xs ys is with
      | some r, some c => some (r && c)
      | _, _ => none
    | _, _ => none

def aeq (P : Program) : Nat → TypeId → Value → Value → Option Bool
  | 0, _, _, _ => none
  | d + 1, t, x, y => match undA P t with
    | some .bool => match x, y with
      | .bool a, .bool b => some (a == b)
      | _, _ => none
    | some (.int _) => match x, y with
      | .int k a, .int k' b => match decide (k = k') with
        | true => some (a == b)
        | false => none
      | _, _ => none
    | some .string => match x, y with
      | .string a, .string b => some (a == b)
      | _, _ => none
    | some (.struct fs) => match x, y with
      | .agg xs, .agg ys => match P.stoodInHeld t with
        | false => aeqFields (aeq P d) P xs ys fs.toList
        | true => none
      | _, _ => none
    | some (.array n e) => match x, y with
      | .agg xs, .agg ys => match sizeT P e with
        | some size => aeqItems (aeq P d) P e size xs ys (List.range n)
        | none => none
      | _, _ => none
    | _ => none

def aeqTop (P : Program) (t : TypeId) (xs ys : Array Value) : Option Bool := match P.eqGuardType P.depth t with
  | false => aeq P 12 t (.agg xs) (.agg ys)
  | true => none
end
end Go.Ev
