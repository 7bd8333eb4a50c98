/- Running the program's functions on values that are known in part: the definitions. -/
import Derived.Calls
import Derived.Orders
import Derived.RangeFuncRecord
import Derived.LoopN
import Derived.Below
import Derived.Laws.World
import Derived.Laws.Sem
set_option linter.unusedVariables false
set_option linter.unusedSimpArgs false
set_option linter.unusedSectionVars false
set_option linter.unnecessarySimpa false
namespace Go.Ev
open Go.RowKit
noncomputable section

/-- Which blocks the names stand for, and which capacities open blocks have. -/
def noVal : { v : Value // v.cells = #[v] } := ⟨.tuple #[], rfl⟩

structure Kap where
  cap : Nat
  any : { v : Value // v.cells = #[v] }

structure Env where
  σ : Nat → Nat
  kk : Nat → Kap

/-- A value whose own addresses are names. -/
inductive AV where
  | pure (v : Value)
  | ptr (n off : Nat)
  | sl (n off len cap : Nat)
  | slx (n off len sub : Nat)
  | yld (n : Nat)
  | bsl (n off len cap : Nat)
  | bslx (n off len sub : Nat)
  | bptr (n off : Nat)
  | any (n : Nat)
  | agg (xs : List AV)
  | tuple (xs : List AV)
  | func (fn : Fn) (xs ys : List AV)

instance : Inhabited AV := ⟨.pure (.tuple #[])⟩

mutual
def AV.den (ρ : Env) : AV → Value
  | .pure v => v
  | .ptr n o => .pointer (some ⟨ρ.σ n, o, none⟩)
  | .sl n o l c => .slice (some ⟨ρ.σ n, o, none⟩) l c
  | .slx n o l s => .slice (some ⟨ρ.σ n, o, none⟩) l ((ρ.kk n).cap - s)
  | .yld n => .func (.yield (ρ.σ n)) #[] #[]
  | .bsl n o l c => .slice (some ⟨ρ.σ n, o, none⟩) l c
  | .bslx n o l s => .slice (some ⟨ρ.σ n, o, none⟩) l ((ρ.kk n).cap - s)
  | .bptr n o => .pointer (some ⟨ρ.σ n, o, none⟩)
  | .any n => (ρ.kk n).any.1
  | .agg xs => .agg (AV.denL ρ xs).toArray
  | .tuple xs => .tuple (AV.denL ρ xs).toArray
  | .func f xs ys => .func f (AV.denL ρ xs).toArray (AV.denL ρ ys).toArray
def AV.denL (ρ : Env) : List AV → List Value
  | [] => []
  | x :: xs => x.den ρ :: AV.denL ρ xs
end

mutual
/-- All names are of a kind. -/
def AV.within (p : Nat → Bool) : AV → Bool
  | .pure _ => true
  | .ptr n _ => p n
  | .sl n _ _ _ => p n
  | .slx n _ _ _ => p n
  | .yld n => p n
  | .bsl n _ _ _ => p n
  | .bslx n _ _ _ => p n
  | .bptr n _ => p n
  | .any n => p n
  | .agg xs => AV.withinL p xs
  | .tuple xs => AV.withinL p xs
  | .func _ xs ys => AV.withinL p xs && AV.withinL p ys
def AV.withinL (p : Nat → Bool) : List AV → Bool
  | [] => true
  | x :: xs => x.within p && AV.withinL p xs
end

/-- All names are below m. -/
def AV.ok (m : Nat) (x : AV) : Bool := x.within fun n => Nat.blt n m
def AV.okL (m : Nat) (xs : List AV) : Bool := AV.withinL (fun n => Nat.blt n m) xs

/-- How far a range over a function has come: ready for a round, in one, or left (by a return, an exit). -/
inductive RState where
  | ready
  | busy
  | ret
  | exit (id : Nat)

/-- The record of a range over a function. -/
structure ARec where
  f : FuncId
  ps : Array Tmp
  asg : Code
  body : Code
  st : RState

inductive AKind where
  | cells
  | big (L : List Value)
  | dfr
  | loop (r : ARec)

structure ABlock where
  cells : List AV
  opn : Option Nat
  kind : AKind

abbrev AHeap := List (Nat × ABlock)

def hget : AHeap → Nat → Option ABlock
  | [], _ => none
  | (m, b) :: h, n => match Nat.beq m n with
    | true => some b
    | false => hget h n

def hput : AHeap → Nat → ABlock → AHeap
  | [], n, b => [(n, b)]
  | (m, c) :: h, n, b => match Nat.beq m n with
    | true => (n, b) :: h
    | false => (m, c) :: hput h n b

def hdel : AHeap → Nat → AHeap
  | [], _ => []
  | (m, c) :: h, n => match Nat.beq m n with
    | true => hdel h n
    | false => (m, c) :: hdel h n

/-- The blocks with names from m on. -/
def hfrom : AHeap → Nat → AHeap
  | [], _ => []
  | (k, c) :: h, m => match Nat.blt k m with
    | true => hfrom h m
    | false => (k, c) :: hfrom h m

/-- The blocks with names below m. -/
def hbelow : AHeap → Nat → AHeap
  | [], _ => []
  | (k, c) :: h, m => match Nat.blt k m with
    | true => (k, c) :: hbelow h m
    | false => hbelow h m

def hcells (h : AHeap) (n : Nat) : Option ABlock := match hget h n with
  | some b => match b.kind with
    | .cells => some b
    | _ => none
  | none => none

def pures : List AV → Option (List Value)
  | [] => some []
  | .pure v :: xs => (pures xs).map (v :: ·)
  | _ :: _ => none

def isPure : AV → Bool
  | .pure _ => true
  | _ => false

def mkAgg (xs : List AV) : AV := match pures xs with
  | some vs => .pure (.agg vs.toArray)
  | none => .agg xs
def mkTuple (xs : List AV) : AV := match pures xs with
  | some vs => .pure (.tuple vs.toArray)
  | none => .tuple xs
def mkFunc (f : Fn) (xs ys : List AV) : AV := match pures xs, pures ys with
  | some us, some vs => .pure (.func f us.toArray vs.toArray)
  | _, _ => .func f xs ys

/-- The cells of a value. -/
def cellsOf : AV → List AV
  | .pure v => v.cells.toList.map .pure
  | .agg xs => xs
  | x => [x]

/-- May it stand in one cell? -/
def oneCell : AV → Bool
  | .any _ => false
  | .pure (.agg _) => false
  | .pure (.tuple _) => false
  | .agg _ => false
  | .tuple _ => false
  | _ => true

/-- A computation that neither reads nor turns the world. -/
def still (P : Program) {α : Type} : Sem α → Option α
  | .pure a => some a
  | .program k => still P (k P)
  | .mark _ k => still P k
  | _ => none

def listGet {α : Type} (xs : List α) : Nat → Option α :=
  @List.rec α (fun _ => Nat → Option α) (fun _ => none) (fun x _ ih n => @Nat.rec (fun _ => Option α) (some x) (fun m _ => ih m) n) xs

def slot (tmps : List AV) (t : Nat) : AV := match listGet tmps t with
  | some v => v
  | none => .pure undef

def aeval (tmps : List AV) : Operand → AV
  | .tmp t => slot tmps t
  | .const v => .pure v
  | .global g => .pure (.pointer (some ⟨g, 0, none⟩))
  | .func f => .pure (.func (.func f) #[] #[])

def penv (tmps : List AV) (x : Operand) : Value := match aeval tmps x with
  | .pure v => v
  | _ => undef

/-- How a loop ends: by its end or an exit; the temporaries, the blocks, the first name that is free, below which name nothing is turned. -/
structure LoopEnd where
  out : Option Nat
  tmps : List AV
  heap : AHeap
  nxt : Nat
  low : Nat

/-- What does not change within a run. -/
structure Ctx where
  P : Program
  tab : Nat → Nat → Option Value
  sym : FuncId → Tmp → Bool
  con : FuncId → Bool
  fine : FuncId → Bool
  fnp : FuncId → List AV → AHeap → Option Value
  lp : FuncId → Code → List AV → AHeap → Nat → Option (LoopEnd)

/-- The frame: the record of the round that it carries out; the blocks for deferred calls that it has laid. -/
structure AFrame where
  rnd : Option Nat
  marks : List Nat

structure Rs where
  vals : List Value
  fr : AFrame

structure St where
  tmps : List AV
  heap : AHeap
  nxt : Nat
  ora : List Bool
  res : Rs

/-- The number, reckoned. -/
def withNat {α : Type} (n : Nat) (k : Nat → α) : α := match n with
  | 0 => k 0
  | m + 1 => k (m + 1)

/-- The value, its kind laid open. -/
def forceVal {α : Type} (v : Value) (k : Value → α) : α := match v with
  | .int a b => k (.int a b)
  | .bool b => k (.bool b)
  | v => k v

def forceV {α : Type} (x : AV) (k : AV → α) : α := match x with
  | .pure v => forceVal v fun v => k (.pure v)
  | .ptr n o => withNat n fun n => withNat o fun o => k (.ptr n o)
  | .sl n o l c => withNat n fun n => withNat o fun o => withNat l fun l => withNat c fun c => k (.sl n o l c)
  | x => k x

/-- The list as it stands, its spine laid open. -/
def spine {α : Type} (xs : List AV) : (List AV → Option α) → Option α :=
  @List.rec AV (fun _ => (List AV → Option α) → Option α) (fun k => k []) (fun x _ ih k => ih fun ys => k (x :: ys)) xs

/-- A list with one value put, its spine laid open so far. -/
def setK {α : Type} (xs : List AV) : Nat → AV → (List AV → Option α) → Option α :=
  @List.rec AV (fun _ => Nat → AV → (List AV → Option α) → Option α) (fun _ _ k => k [])
    (fun x xs ih n v k => @Nat.rec (fun _ => Option α) (k (v :: xs)) (fun m _ => ih m v fun ys => k (x :: ys)) n) xs

def hputK {α : Type} (h : AHeap) : Nat → ABlock → (AHeap → Option α) → Option α :=
  @List.rec (Nat × ABlock) (fun _ => Nat → ABlock → (AHeap → Option α) → Option α) (fun n b k => k [(n, b)])
    (fun x h ih n b k => match x with
      | (m, c) => match Nat.beq m n with
        | true => k ((n, b) :: h)
        | false => ih n b fun h => k ((m, c) :: h)) h

inductive AX where
  | normal
  | exit (id : Nat)
  | ret
  | val (v : AV)

/-- What a run asks for: that a call returns a value; that a loop ends so. -/
inductive Ask where
  | call (g : FuncId) (vs : List Value) (v : Value)
  | loop (c : Code) (s : St) (x : AX) (t : St) (low : Nat)

structure Log where
  conds : List (Bool × Bool)
  calls : List Ask

structure Out where
  x : AX
  st : St
  low : Nat
  log : Log

end
end Go.Ev
