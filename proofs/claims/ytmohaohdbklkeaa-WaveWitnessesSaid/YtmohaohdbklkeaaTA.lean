import Derived.Calls
import Derived.Orders
import Derived.RangeFuncRecord
import Derived.LoopN
import Derived.Below
import Derived.Laws.World
import Derived.Laws.Sem
import Derived.ChangeKeysEq
import Derived.Laws.CopyRow
import Derived.Laws.Cells
import Derived.Laws.Tables
import Derived.Laws.Entries
import Derived.Carry
import Derived.OpenShut
import Derived.ChangeArms
import Derived.Lib.SmallJoins
import Derived.Laws.MakeOwn
set_option linter.unusedVariables false
set_option linter.unusedSimpArgs false
set_option linter.unusedSectionVars false
set_option linter.unnecessarySimpa false
/- Running the program's functions on values that are known in part: the definitions. -/
namespace Go.Ev
open Go.RowKit
noncomputable section
/-- Which blocks the names stand for, and which capacities open blocks have. -/
def noVal : Value := .tuple #[]
/-- A value in depth: plain, a slice with its cells, a struct or an array with its cells, several results. -/
inductive D where
  | one (v : Value)
  | list (k : Nat) (cs : List D)
  | agg (cs : List D)
  | tup (cs : List D)
instance : Inhabited D := ⟨.one (.tuple #[])⟩
structure Kap where
  cap : Nat
  any : Value
  dv : Option Addr × Nat × Nat
structure Env where
  σ : Nat → Nat
  kk : Nat → Kap
  A : Nat → Prop
  L : Nat
/-- A value whose own addresses are names. -/
inductive AV where
  | pure (v : Value)
  | ptr (n off : Nat)
  | sl (n off len cap : Nat)
  | slx (n off len sub : Nat)
  | yld (n : Nat)
  | mp (n : Nat)
  | bsl (n off len cap : Nat)
  | bslx (n off len sub : Nat)
  | bptr (n off : Nat)
  | dsl (n : Nat)
  | dptr (n off : Nat)
  | any (n : Nat)
  | agg (xs : List AV)
  | tuple (xs : List AV)
  | func (fn : Fn) (xs ys : List AV)
instance : Inhabited AV := ⟨.pure (.tuple #[])⟩
/-- A place behind the beginning of a slice. -/
def behindOf (dv : Option Addr × Nat × Nat) (off : Nat) : Value := match dv with
  | (some ⟨b, o, none⟩, _, _) => .pointer (some ⟨b, o + off, none⟩)
  | _ => undef
def sliceOf (dv : Option Addr × Nat × Nat) : Value := .slice dv.1 dv.2.1 dv.2.2
mutual
def AV.den (ρ : Env) : AV → Value
  | .pure v => v
  | .ptr n o => .pointer (some ⟨ρ.σ n, o, none⟩)
  | .sl n o l c => .slice (some ⟨ρ.σ n, o, none⟩) l c
  | .slx n o l s => .slice (some ⟨ρ.σ n, o, none⟩) l ((ρ.kk n).cap - s)
  | .yld n => .func (.yield (ρ.σ n)) #[] #[]
  | .mp n => .map (some (ρ.σ n))
  | .bsl n o l c => .slice (some ⟨ρ.σ n, o, none⟩) l c
  | .bslx n o l s => .slice (some ⟨ρ.σ n, o, none⟩) l ((ρ.kk n).cap - s)
  | .bptr n o => .pointer (some ⟨ρ.σ n, o, none⟩)
  | .dsl n => sliceOf (ρ.kk n).dv
  | .dptr n o => behindOf (ρ.kk n).dv o
  | .any n => (ρ.kk n).any
  | .agg xs => .agg (AV.denL ρ xs).toArray
  | .tuple xs => .tuple (AV.denL ρ xs).toArray
  | .func f xs ys => .func f (AV.denL ρ xs).toArray (AV.denL ρ ys).toArray
def AV.denL (ρ : Env) : List AV → List Value
  | [] => []
  | x :: xs => x.den ρ :: AV.denL ρ xs
end
mutual
/-- All names are of a kind. -/
def AV.within (p : Nat → Bool) : AV → Bool
  | .pure _ => true
  | .ptr n _ => p n
  | .sl n _ _ _ => p n
  | .slx n _ _ _ => p n
  | .yld n => p n
  | .mp n => p n
  | .bsl n _ _ _ => p n
  | .bslx n _ _ _ => p n
  | .bptr n _ => p n
  | .dsl n => p n
  | .dptr n _ => p n
  | .any n => p n
  | .agg xs => AV.withinL p xs
  | .tuple xs => AV.withinL p xs
  | .func _ xs ys => AV.withinL p xs && AV.withinL p ys
def AV.withinL (p : Nat → Bool) : List AV → Bool
  | [] => true
  | x :: xs => x.within p && AV.withinL p xs
end
/-- All names are below m. -/
def AV.ok (m : Nat) (x : AV) : Bool := x.within fun n => Nat.blt n m
def AV.okL (m : Nat) (xs : List AV) : Bool := AV.withinL (fun n => Nat.blt n m) xs
/-- How far a range over a function has come: ready for a round, in one, or left (by a return, an exit). -/
inductive RState where
  | ready
  | busy
  | ret
  | exit (id : Nat)
/-- The record of a range over a function. -/
structure ARec where
  f : FuncId
  ps : Array Tmp
  asg : Code
  body : Code
  st : RState
inductive AKind where
  | cells
  | big (L : List D)
  | dfr
  | mp (born : List Nat) (clock : Nat)
  | mit (since : Nat) (seen : List Nat) (last : Nat)
  | loop (r : ARec)
  | deep (k : Nat) (cs : List D)
structure ABlock where
  cells : List AV
  opn : Option Nat
  kind : AKind
/-- Does a block of its own stand for the name? -/
def ABlock.mem (b : ABlock) : Bool := match b.kind with
  | .deep _ _ => false
  | _ => true
abbrev AHeap := List (Nat × ABlock)
def hget : AHeap → Nat → Option ABlock
  | [], _ => none
  | (m, b) :: h, n => match Nat.beq m n with
    | true => some b
    | false => hget h n
def hput : AHeap → Nat → ABlock → AHeap
  | [], n, b => [(n, b)]
  | (m, c) :: h, n, b => match Nat.beq m n with
    | true => (n, b) :: h
    | false => (m, c) :: hput h n b
def hdel : AHeap → Nat → AHeap
  | [], _ => []
  | (m, c) :: h, n => match Nat.beq m n with
    | true => hdel h n
    | false => (m, c) :: hdel h n
/-- The blocks with names from m on. -/
def hfrom : AHeap → Nat → AHeap
  | [], _ => []
  | (k, c) :: h, m => match Nat.blt k m with
    | true => hfrom h m
    | false => (k, c) :: hfrom h m
/-- The blocks with names below m. -/
def hbelow : AHeap → Nat → AHeap
  | [], _ => []
  | (k, c) :: h, m => match Nat.blt k m with
    | true => (k, c) :: hbelow h m
    | false => hbelow h m
def hcells (h : AHeap) (n : Nat) : Option ABlock := match hget h n with
  | some b => match b.kind with
    | .cells => some b
    | _ => none
  | none => none
def pures : List AV → Option (List Value)
  | [] => some []
  | .pure v :: xs => (pures xs).map (v :: ·)
  | _ :: _ => none
def isPure : AV → Bool
  | .pure _ => true
  | _ => false
def mkAgg (xs : List AV) : AV := match pures xs with
  | some vs => .pure (.agg vs.toArray)
  | none => .agg xs
def mkTuple (xs : List AV) : AV := match pures xs with
  | some vs => .pure (.tuple vs.toArray)
  | none => .tuple xs
def mkFunc (f : Fn) (xs ys : List AV) : AV := match pures xs, pures ys with
  | some us, some vs => .pure (.func f us.toArray vs.toArray)
  | _, _ => .func f xs ys
/-- The cells of a value. -/
def cellsOf : AV → List AV
  | .pure v => v.cells.toList.map .pure
  | .agg xs => xs
  | x => [x]
/-- Is it known how many cells it has? -/
def solid : AV → Bool
  | .any _ => false
  | _ => true
/-- May it stand in one cell? -/
def oneCell : AV → Bool
  | .any _ => false
  | .dptr _ _ => false
  | .pure (.agg _) => false
  | .pure (.tuple _) => false
  | .agg _ => false
  | .tuple _ => false
  | _ => true
/-- A computation that neither reads nor turns the world. -/
def still (P : Program) {α : Type} : Sem α → Option α
  | .pure a => some a
  | .program k => still P (k P)
  | .mark _ k => still P k
  | _ => none
def listGet {α : Type} (xs : List α) : Nat → Option α :=
  @List.rec α (fun _ => Nat → Option α) (fun _ => none) (fun x _ ih n => @Nat.rec (fun _ => Option α) (some x) (fun m _ => ih m) n) xs
def slot (tmps : List AV) (t : Nat) : AV := match listGet tmps t with
  | some v => v
  | none => .pure undef
def aeval (tmps : List AV) : Operand → AV
  | .tmp t => slot tmps t
  | .const v => .pure v
  | .global g => .pure (.pointer (some ⟨g, 0, none⟩))
  | .func f => .pure (.func (.func f) #[] #[])
def penv (tmps : List AV) (x : Operand) : Value := match aeval tmps x with
  | .pure v => v
  | _ => undef
/-- How a loop ends: by its end or an exit; the temporaries, the blocks, the first name that is free, below which name nothing is turned. -/
structure LoopEnd where
  out : Option Nat
  tmps : List AV
  heap : AHeap
  nxt : Nat
  low : Nat
/-- What does not change within a run. -/
structure Ctx where
  P : Program
  tab : Nat → Nat → Option Value
  sym : FuncId → Tmp → Bool
  con : FuncId → Bool
  fine : FuncId → Bool
  lp : FuncId → Code → List AV → AHeap → Nat → List D → Option (LoopEnd × List D)
/-- The frame: the record of the round that it carries out; the blocks for deferred calls that it has laid. -/
structure AFrame where
  rnd : Option Nat
  marks : List Nat
structure Rs where
  vals : List D
  fr : AFrame
structure St where
  tmps : List AV
  heap : AHeap
  nxt : Nat
  ora : List Bool
  res : Rs
/-- The number, reckoned. -/
def withNat {α : Type} (n : Nat) (k : Nat → α) : α := match n with
  | 0 => k 0
  | m + 1 => k (m + 1)
/-- The value, its kind laid open. -/
def forceVal1 {α : Type} (v : Value) (k : Value → α) : α := match v with
  | .int a b => k (.int a b)
  | .bool b => k (.bool b)
  | v => k v
def forceVs {α : Type} (xs : List Value) : (List Value → α) → α :=
  @List.rec Value (fun _ => (List Value → α) → α) (fun k => k []) (fun x _ ih k => forceVal1 x fun y => ih fun ys => k (y :: ys)) xs
def forceVal {α : Type} (v : Value) (k : Value → α) : α := match v with
  | .int a b => k (.int a b)
  | .bool b => k (.bool b)
  | .agg cs => forceVs cs.toList fun ys => k (.agg ⟨ys⟩)
  | v => k v
def forceV {α : Type} (x : AV) (k : AV → α) : α := match x with
  | .pure v => forceVal v fun v => k (.pure v)
  | .ptr n o => withNat n fun n => withNat o fun o => k (.ptr n o)
  | .sl n o l c => withNat n fun n => withNat o fun o => withNat l fun l => withNat c fun c => k (.sl n o l c)
  | .dsl n => withNat n fun n => k (.dsl n)
  | x => k x
/-- The list as it stands, its spine laid open. -/
def spine {α : Type} (xs : List AV) : (List AV → Option α) → Option α :=
  @List.rec AV (fun _ => (List AV → Option α) → Option α) (fun k => k []) (fun x _ ih k => ih fun ys => k (x :: ys)) xs
/-- A list with one value put, its spine laid open so far. -/
def setK {α : Type} (xs : List AV) : Nat → AV → (List AV → Option α) → Option α :=
  @List.rec AV (fun _ => Nat → AV → (List AV → Option α) → Option α) (fun _ _ k => k [])
    (fun x xs ih n v k => @Nat.rec (fun _ => Option α) (k (v :: xs)) (fun m _ => ih m v fun ys => k (x :: ys)) n) xs
def hputK {α : Type} (h : AHeap) : Nat → ABlock → (AHeap → Option α) → Option α :=
  @List.rec (Nat × ABlock) (fun _ => Nat → ABlock → (AHeap → Option α) → Option α) (fun n b k => k [(n, b)])
    (fun x h ih n b k => match x with
      | (m, c) => match Nat.beq m n with
        | true => k ((n, b) :: h)
        | false => ih n b fun h => k ((m, c) :: h)) h
inductive AX where
  | normal
  | exit (id : Nat)
  | ret
  | val (v : AV)
/-- What a run asks for: that a call returns a value; that a loop ends so. -/
inductive Ask where
  | call (g : FuncId) (ds : List D) (r : D)
  | loop (c : Code) (s : St) (x : AX) (t : St) (low : Nat)
structure Log where
  conds : List (Bool × Bool)
  calls : List Ask
structure Out where
  x : AX
  st : St
  low : Nat
  log : Log
end
end Go.Ev
/- Running the program's functions on values that are known in part: what is equal to what, as a truth that is not decided. -/
namespace Go.Ev
noncomputable section
def infoA (P : Program) (t : TypeId) : Option TypeInfo := listGet P.types.toList t
def undA (P : Program) (t : TypeId) : Option TypeDesc := match infoA P t with
  | some i => match i.desc with
    | .named _ u => match infoA P u with
      | some j => some j.desc
      | none => none
    | d => some d
  | none => none
def sizeT (P : Program) (t : TypeId) : Option Nat := match infoA P t with
  | some i => some i.size
  | none => none
def aeqFields (E : TypeId → Value → Value → Option Bool) (P : Program) (xs ys : Array Value) : List Field → Option Bool
  | [] => some true
  | f :: fs => match decide (f.name = "_") with
    | true => aeqFields E P xs ys fs
    | false => match still P (part f.type xs f.offset), still P (part f.type ys f.offset) with
      | some a, some b => match E f.type a b, aeqFields E P xs ys fs with
        | some r, some c => some (r && c)
        | _, _ => none
      | _, _ => none
def aeqItems (E : TypeId → Value → Value → Option Bool) (P : Program) (e : TypeId) (size : Nat) (xs ys : Array Value) : List Nat → Option Bool
  | [] => some true
  | i :: is => match still P (part e xs (i * size)), still P (part e ys (i * size)) with
    | some a, some b => match E e a b, aeqItems E P e size xs ys is with
      | some r, some c => some (r && c)
      | _, _ => none
    | _, _ => none
def aeq (P : Program) : Nat → TypeId → Value → Value → Option Bool
  | 0, _, _, _ => none
  | d + 1, t, x, y => match undA P t with
    | some .bool => match x, y with
      | .bool a, .bool b => some (a == b)
      | _, _ => none
    | some (.int _) => match x, y with
      | .int k a, .int k' b => match decide (k = k') with
        | true => some (a == b)
        | false => none
      | _, _ => none
    | some .string => match x, y with
      | .string a, .string b => some (a == b)
      | _, _ => none
    | some (.struct fs) => match x, y with
      | .agg xs, .agg ys => match P.stoodInHeld t with
        | false => aeqFields (aeq P d) P xs ys fs.toList
        | true => none
      | _, _ => none
    | some (.array n e) => match x, y with
      | .agg xs, .agg ys => match sizeT P e with
        | some size => aeqItems (aeq P d) P e size xs ys (List.range n)
        | none => none
      | _, _ => none
    | _ => none
def aeqTop (P : Program) (t : TypeId) (xs ys : Array Value) : Option Bool := match P.eqGuardType P.depth t with
  | false => aeq P 12 t (.agg xs) (.agg ys)
  | true => none
end
end Go.Ev
/- Running the program's functions on values that are known in part: one operation, one piece of code. -/
namespace Go.Ev
noncomputable section
def bytesOf (l : List Nat) : ByteArray := ⟨(l.map UInt8.ofNat).toArray⟩
def natOf : Value → Option Nat
  | .int _ (.ofNat n) => some n
  | _ => none
/-- Of a slice: the name, the place, the length, the capacity (none: open; then what is cut off it). -/
def bound (x : Option AV) (d : Nat) : Option Nat := match x with
  | none => some d
  | some (.pure v) => natOf v
  | _ => none
def aggType (P : Program) (t : TypeId) : Option Bool := match undA P t with
  | some (.struct _) => some true
  | some (.array _ _) => some true
  | some _ => some false
  | none => none
def zeroT (P : Program) (t : TypeId) : Option Value := match infoA P t with
  | some i => i.zero
  | none => none
/-- How many cells a value of a type takes that is read at a place. -/
def width (g : Bool) (size : Nat) : Nat := match g with | true => size | false => 1
/-- So many cells of a list from a place on. -/
def cut (xs : List AV) (off n : Nat) : Option (List AV) :=
  let ys := (xs.drop off).take n
  match Nat.beq ys.length n with
  | true => some ys
  | false => none
def tabCells (tab : Nat → Nat → Option Value) (g : Nat) : Nat → Nat → Option (List AV)
  | _, 0 => some []
  | o, n + 1 => match tab g o, tabCells tab g (o + 1) n with
    | some v, some vs => some (.pure v :: vs)
    | _, _ => none
/-- What is read at a place, as a value of a type. -/
def whole (agg : Bool) (xs : List AV) : Option AV := match agg, xs with
  | true, xs => some (mkAgg xs)
  | false, [x] => some x
  | _, _ => none
def aload (C : Ctx) (h : AHeap) (t : TypeId) (x : AV) : Option AV :=
  match aggType C.P t, sizeT C.P t with
  | some g, some size =>
    match x with
    | .ptr b off => match hcells h b with
      | some blk => (cut blk.cells off (width g size)).bind (whole g)
      | none => none
    | .pure (.pointer (some ⟨b, off, none⟩)) => (tabCells C.tab b off (width g size)).bind (whole g)
    | _ => none
  | _, _ => none
/-- A list with some of its cells replaced. -/
def patch (xs ys : List AV) (off : Nat) : Option (List AV) :=
  match Nat.ble (off + ys.length) xs.length with
  | true => some (xs.take off ++ ys ++ xs.drop (off + ys.length))
  | false => none
def astore (C : Ctx) (h : AHeap) (nxt : Nat) (t : TypeId) (x v : AV) : Option (AHeap × Nat) :=
  let ys := cellsOf v
  match x, sizeT C.P t, ys.all oneCell && AV.okL nxt ys with
  | .ptr b off, some size, true => match hcells h b, Nat.beq ys.length size with
    | some blk, true => match patch blk.cells ys off with
      | some cs => spine cs fun cs => hputK h b ⟨cs, blk.opn, .cells⟩ fun h => some (h, b)
      | none => none
    | _, _ => none
  | _, _, _ => none
/-- Parts laid into cells. -/
def afill (place : Nat → Option (Nat × Nat)) (cells : List AV) : List (Nat × AV) → Option (List AV)
  | [] => some cells
  | (i, v) :: rest => match place i with
    | none => none
    | some (off, size) => match solid v && Nat.beq (cellsOf v).length size, patch cells (cellsOf v) off with
      | true, some cs => afill place cs rest
      | _, _ => none
def fieldPlaces (P : Program) (fs : List Field) : Option (List (Nat × Nat)) := match fs with
  | [] => some []
  | f :: fs => match sizeT P f.type, fieldPlaces P fs with
    | some s, some l => some ((f.offset, s) :: l)
    | _, _ => none
def abuild (P : Program) (t : TypeId) (parts : List (Nat × AV)) : Option AV :=
  match undA P t, zeroT P t with
  | some (.struct fs), some z => match fieldPlaces P fs.toList with
    | some ps => (afill (listGet ps) (z.cells.toList.map .pure) parts).map mkAgg
    | none => none
  | some (.array _ e), some z => match sizeT P e with
    | some size => (afill (fun i => some (i * size, size)) (z.cells.toList.map .pure) parts).map mkAgg
    | none => none
  | _, _ => none
/-- So many cells, the cells of a zero value over and over. -/
def zeros (z : List AV) : Nat → List AV
  | 0 => []
  | n + 1 => z ++ zeros z n
abbrev Res := AV × AHeap × Nat × Nat
def quiet (s : St) (v : AV) : Option Res := some (v, s.heap, s.nxt, s.nxt)
def fresh (s : St) (cells : List AV) (opn : Option Nat) (v : AV) : Option Res := match AV.okL s.nxt cells with
  | true => some (v, (s.nxt, ⟨cells, opn, .cells⟩) :: s.heap, s.nxt + 1, s.nxt)
  | false => none
def cutOff (m l off size : Nat) : Nat := match Nat.beq m l with | true => off | false => off + l * size
def aslice (C : Ctx) (s : St) (t : TypeId) (x : AV) (lo hi mx : Option AV) : Option Res :=
  match undA C.P t, x with
  | some (.array n e), .ptr b off =>
    match bound mx n, bound lo 0, sizeT C.P e with
    | some m, some l, some size => match bound hi n with
      | some h => match Nat.ble l h && Nat.ble h m && Nat.ble m n && (mx.isNone || hi.isSome) with
        | true => quiet s (.sl b (cutOff m l off size) (h - l) (m - l))
        | false => none
      | none => none
    | _, _, _ => none
  | some (.slice e), .sl b off len cap =>
    match bound mx cap, bound lo 0, bound hi len, sizeT C.P e with
    | some m, some l, some h, some size => match Nat.ble l h && Nat.ble h m && Nat.ble m cap && (mx.isNone || hi.isSome) with
      | true => quiet s (.sl b (cutOff m l off size) (h - l) (m - l))
      | false => none
    | _, _, _, _ => none
  | some (.slice e), .slx b off len sub => match hcells s.heap b with
    | some ⟨cs, some (k + 1), _⟩ => match Nat.ble ((sub + len) * (k + 1)) cs.length, bound lo 0, bound hi len, sizeT C.P e with
      | true, some l, some h, some size => match mx with
        | none => match Nat.ble l h && Nat.ble h len && (Nat.beq l 0 || Nat.blt l len) with
          | true => quiet s (.slx b (off + l * size) (h - l) (sub + l))
          | false => none
        | some mv => match bound (some mv) 0, hi.isSome with
          | some m, true => match Nat.ble l h && Nat.ble h m && Nat.ble m len with
            | true => quiet s (.sl b (cutOff m l off size) (h - l) (m - l))
            | false => none
          | _, _ => none
      | _, _, _, _ => none
    | _ => none
  | _, _ => none
def opAlloc (C : Ctx) (s : St) (e : TypeId) : Option Res := match zeroT C.P e with
  | some z => fresh s (z.cells.toList.map .pure) none (.ptr s.nxt 0)
  | none => none
def opBuild (C : Ctx) (s : St) (t : TypeId) (parts : Array (Nat × Operand)) : Option Res :=
  match abuild C.P t (parts.toList.map fun p => (p.1, aeval s.tmps p.2)) with
  | some v => quiet s v
  | none => none
def opBuildSlice (C : Ctx) (s : St) (t : TypeId) (len : Nat) (parts : Array (Nat × Operand)) : Option Res :=
  match undA C.P t with
  | some (.slice e) => match sizeT C.P e, zeroT C.P e with
    | some size, some z => match Nat.ble (len * size) 16777216 && Nat.beq z.cells.size size with
      | true => match afill (fun i => some (i * size, size)) (zeros (z.cells.toList.map .pure) len) (parts.toList.map fun p => (p.1, aeval s.tmps p.2)) with
        | some cs => fresh s cs none (.sl s.nxt 0 len len)
        | none => none
      | false => none
    | _, _ => none
  | _ => none
def opLoad (C : Ctx) (s : St) (t : TypeId) (x : AV) : Option Res := match aload C s.heap t x with
  | some v => quiet s v
  | none => none
def opStore (C : Ctx) (s : St) (t : TypeId) (x v : AV) : Option Res := match astore C s.heap s.nxt t x v with
  | some (h, low) => some (.pure undef, h, s.nxt, Nat.min low s.nxt)
  | none => none
def opNil (s : St) (x : AV) : Option Res := match x with
  | .ptr b off => quiet s (.ptr b off)
  | .func (.func f) xs ys => quiet s (.func (.func f) xs ys)
  | _ => none
def opExtract (s : St) (x : AV) (i : Nat) : Option Res := match x with
  | .tuple xs => match listGet xs i with
    | some v => quiet s v
    | none => none
  | _ => none
def opField (C : Ctx) (s : St) (t : TypeId) (x : AV) (i : Nat) : Option Res := match undA C.P t, x with
  | some (.struct fs), .agg xs => match listGet fs.toList i with
    | some f => match aggType C.P f.type, sizeT C.P f.type with
      | some g, some size => match cut xs f.offset (width g size) with
        | some ys => match whole g ys with
          | some v => quiet s v
          | none => none
        | none => none
      | _, _ => none
    | none => none
  | _, _ => none
def opFieldAddr (C : Ctx) (s : St) (t : TypeId) (x : AV) (i : Nat) : Option Res := match undA C.P t, x with
  | some (.struct fs), .ptr b off => match listGet fs.toList i with
    | some f => match sizeT C.P f.type with
      | some (_ + 1) => quiet s (.ptr b (off + f.offset))
      | _ => none
    | none => none
  | _, _ => none
def opIndexAddr (C : Ctx) (s : St) (t : TypeId) (x ix : AV) : Option Res := match ix with
  | .pure v => match natOf v, undA C.P t, x with
    | some i, some (.array n e), .ptr b off => match sizeT C.P e, Nat.blt i n with
      | some size, true => quiet s (.ptr b (off + i * size))
      | _, _ => none
    | some i, some (.slice e), .sl b off len _ => match sizeT C.P e, Nat.blt i len with
      | some size, true => quiet s (.ptr b (off + i * size))
      | _, _ => none
    | some i, some (.slice e), .slx b off len _ => match sizeT C.P e, Nat.blt i len with
      | some size, true => quiet s (.ptr b (off + i * size))
      | _, _ => none
    | _, _, _ => none
  | _ => none
def opIndexV (C : Ctx) (s : St) (t : TypeId) (x ix : AV) : Option Res := match ix with
  | .pure v => match natOf v, undA C.P t, x with
    | some i, some (.array n e), .agg xs => match aggType C.P e, sizeT C.P e with
      | some g, some size => match Nat.blt i n, cut xs (i * size) (width g size) with
        | true, some ys => match whole g ys with
          | some v => quiet s v
          | none => none
        | _, _ => none
      | _, _ => none
    | _, _, _ => none
  | _ => none
def opMakeSlice (C : Ctx) (s : St) (t : TypeId) (len cap : AV) : Option Res := match len, cap, undA C.P t with
  | .pure a, .pure b, some (.slice e) => match natOf a, natOf b, infoA C.P e with
    | some l, some c, some i => match i.zero, Nat.ble l c && Nat.ble (i.bytes * c) 140737488355328 && Nat.ble c 140737488355328 with
      | some z, true => match Nat.beq z.cells.size i.size with
        | true => fresh s (zeros (z.cells.toList.map .pure) c) none (.sl s.nxt 0 l c)
        | false => none
      | _, _ => none
    | _, _, _ => none
  | _, _, _ => none
def opLen (C : Ctx) (s : St) (c : Call) : Option Res := match c.callee with
  | .builtin .len => match c.args.toList, c.argTypes.toList with
    | [x], [t] => match undA C.P t, aeval s.tmps x with
      | some (.slice _), .bsl _ _ len _ => quiet s (.pure (.int .i64 len))
      | some (.slice _), .bslx _ _ len _ => quiet s (.pure (.int .i64 len))
      | some (.slice _), .sl _ _ len _ => quiet s (.pure (.int .i64 len))
      | some (.slice _), .slx _ _ len _ => quiet s (.pure (.int .i64 len))
      | _, _ => none
    | _, _ => none
  | _ => none
def listLike : TypeDesc → Bool
  | .slice _ => true
  | .string => true
  | _ => false
/-- What is appended: its cells, and how many elements. -/
def newCells (h : AHeap) (size : Nat) (y : AV) : Option (List AV × Nat) := match y with
  | .sl b off len _ => match hcells h b with
    | some blk => match cut blk.cells off (len * size) with
      | some ys => some (ys, len)
      | none => none
    | none => none
  | .slx b off len _ => match hcells h b with
    | some blk => match cut blk.cells off (len * size) with
      | some ys => some (ys, len)
      | none => none
    | none => none
  | .pure (.slice none len _) => match len with
    | 0 => some ([], 0)
    | _ => none
  | .pure (.string s) => match Nat.beq size 1 with
    | true => some (s.data.toList.map (fun b => .pure (.int .u8 b.toNat)), s.data.toList.length)
    | false => none
  | _ => none
/-- A new block for what was there and what is appended. -/
def appGrow (s : St) (size need : Nat) (cells : List AV) (heap : AHeap) (low : Nat) : Option Res :=
  some (.slx s.nxt 0 need 0, (s.nxt, ⟨cells, some size, .cells⟩) :: heap, s.nxt + 1, Nat.min low s.nxt)
def appTo (s : St) (size bytes : Nat) (x : AV) (ys : List AV) (n : Nat) : Option Res :=
  match AV.okL s.nxt ys && ys.all oneCell with
  | true => match x with
    | .pure (.slice none l c) => match l, c with
      | 0, 0 => match n with
        | 0 => quiet s x
        | n + 1 => match Nat.ble ((n + 1) * bytes) 140737488355328 && Nat.ble (n + 1) 4611686018427387904 with
          | true => spine ys fun ys => appGrow s size (n + 1) ys s.heap s.nxt
          | false => none
      | _, _ => none
    | .sl b off len cap => match hcells s.heap b with
      | some blk => match Nat.ble (len + n) cap with
        | true => match patch blk.cells ys (off + len * size) with
          | some cs => spine cs fun cs => hputK s.heap b ⟨cs, blk.opn, .cells⟩ fun h => some (.sl b off (len + n) cap, h, s.nxt, Nat.min b s.nxt)
          | none => none
        | false => match cut blk.cells off (len * size), Nat.ble ((len + n) * bytes) 140737488355328 && Nat.ble (len + n) 4611686018427387904 with
          | some old, true => spine (old ++ ys) fun cs => appGrow s size (len + n) cs s.heap s.nxt
          | _, _ => none
      | none => none
    | .slx b off len sub => match off, sub, hcells s.heap b with
      | 0, 0, some ⟨cs, some k, _⟩ => match cut cs 0 (len * size), Nat.ble ((len + n) * bytes) 140737488355328 && Nat.ble (len + n) 4611686018427387904 && Nat.beq k size with
        | some old, true => spine (old ++ ys) fun cs => appGrow s size (len + n) cs (hdel s.heap b) b
        | _, _ => none
      | _, _, _ => none
    | _ => none
  | false => none
def opAppend (C : Ctx) (s : St) (c : Call) : Option Res := match c.args.toList, c.argTypes.toList with
  | [x, y], [t, u] => match undA C.P t, undA C.P u with
    | some (.slice e), some du => match listLike du, infoA C.P e with
      | true, some i => match i.zero with
        | some z => match Nat.beq z.cells.size i.size, newCells s.heap i.size (aeval s.tmps y) with
          | true, some (ys, n) => appTo s i.size i.bytes (aeval s.tmps x) ys n
          | _, _ => none
        | none => none
      | _, _ => none
    | _, _ => none
  | _, _ => none
def opCall (C : Ctx) (s : St) (c : Call) : Option Res := match c.callee with
  | .builtin .append => opAppend C s c
  | _ => opLen C s c
/-- The bytes that cells hold. -/
def byteList : List AV → Option (List Int)
  | [] => some []
  | x :: xs => match x with
    | .pure (.int .u8 n) => match byteList xs with
      | some ns => some (n :: ns)
      | none => none
    | _ => none
def opString (s : St) (b off len : Nat) : Option Res := match hcells s.heap b with
  | some blk => match cut blk.cells off len with
    | some ys => match byteList ys with
      | some ns => quiet s (.pure (.string (bytesOf (ns.map Int.toNat))))
      | none => none
    | none => none
  | none => none
def opConvert (C : Ctx) (s : St) (src dst : TypeId) (x : AV) : Option Res := match undA C.P src, undA C.P dst with
  | some (.slice e), some .string => match undA C.P e, x with
    | some (.int .u8), .sl b off len _ => opString s b off len
    | some (.int .u8), .slx b off len _ => opString s b off len
    | _, _ => none
  | _, _ => none
/-- A value with own addresses held against nil. -/
def nilPair (d : TypeDesc) (x y : AV) : Bool := match d with
  | .slice _ => match x, y with
    | .sl _ _ _ _, .pure (.slice none _ _) => true
    | .slx _ _ _ _, .pure (.slice none _ _) => true
    | .bsl _ _ _ _, .pure (.slice none _ _) => true
    | .bslx _ _ _ _, .pure (.slice none _ _) => true
    | .pure (.slice none _ _), .sl _ _ _ _ => true
    | .pure (.slice none _ _), .slx _ _ _ _ => true
    | .pure (.slice none _ _), .bsl _ _ _ _ => true
    | .pure (.slice none _ _), .bslx _ _ _ _ => true
    | _, _ => false
  | .pointer _ => match x, y with
    | .ptr _ _, .pure (.pointer none) => true
    | .pure (.pointer none), .ptr _ _ => true
    | _, _ => false
  | .func _ _ _ => match x, y with
    | .func _ _ _, .pure .nilFunc => true
    | .yld _, .pure .nilFunc => true
    | .pure .nilFunc, .func _ _ _ => true
    | .pure .nilFunc, .yld _ => true
    | _, _ => false
  | _ => false
def opNilEq (C : Ctx) (s : St) (op : BinOp) (t : TypeId) (x y : AV) : Option Res := match undA C.P t with
  | some d => match nilPair d x y with
    | true => match op with
      | .eql => quiet s (.pure (.bool false))
      | .neq => quiet s (.pure (.bool true))
      | _ => none
    | false => none
  | none => none
/-- The operations that may bear own addresses. -/
def aopOwn (C : Ctx) (s : St) (o : Oper) : Option Res :=
  match o.op with
  | .move x => quiet s (aeval s.tmps x)
  | .assign x => quiet s (aeval s.tmps x)
  | .alloc e => opAlloc C s e
  | .box _ x => match solid (aeval s.tmps x) with
    | true => fresh s (cellsOf (aeval s.tmps x)) none (.ptr s.nxt 0)
    | false => none
  | .build t parts => opBuild C s t parts
  | .buildSlice t len parts => opBuildSlice C s t len parts
  | .load t a => opLoad C s t (aeval s.tmps a)
  | .store t a x => opStore C s t (aeval s.tmps a) (aeval s.tmps x)
  | .nilCheck x => opNil s (aeval s.tmps x)
  | .makeFunc fn xs ys => quiet s (mkFunc fn (xs.toList.map (aeval s.tmps)) (ys.toList.map (aeval s.tmps)))
  | .extract x i => opExtract s (aeval s.tmps x) i
  | .field t x i => opField C s t (aeval s.tmps x) i
  | .fieldAddr t x i => opFieldAddr C s t (aeval s.tmps x) i
  | .indexAddr t x ix => opIndexAddr C s t (aeval s.tmps x) (aeval s.tmps ix)
  | .index t x ix => opIndexV C s t (aeval s.tmps x) (aeval s.tmps ix)
  | .slice t x lo hi mx => aslice C s t (aeval s.tmps x) (lo.map (aeval s.tmps)) (hi.map (aeval s.tmps)) (mx.map (aeval s.tmps))
  | .makeSlice t len cap => opMakeSlice C s t (aeval s.tmps len) (aeval s.tmps cap)
  | .call c => opCall C s c
  | .binOp op t x y _ => opNilEq C s op t (aeval s.tmps x) (aeval s.tmps y)
  | .convert src dst x => opConvert C s src dst (aeval s.tmps x)
  | _ => none
def allPure (tmps : List AV) : List Operand → Bool
  | [] => true
  | x :: xs => match aeval tmps x with
    | .pure _ => allPure tmps xs
    | _ => false
/-- An operation on values without own addresses, by the model's own words. -/
def slow (C : Ctx) (s : St) (o : Oper) : Option Res := match allPure s.tmps o.op.operands.toList with
  | true => match still C.P (execOp (penv s.tmps) o) with
    | some (.value v) => quiet s (.pure v)
    | _ => aopOwn C s o
  | false => aopOwn C s o
def fastInt (op : BinOp) (a b : Int) : Option Value := match op with
  | .add => some (.int .i64 (IntKind.i64.wrap (a + b)))
  | .sub => some (.int .i64 (IntKind.i64.wrap (a - b)))
  | .mul => some (.int .i64 (IntKind.i64.wrap (a * b)))
  | .eql => some (.bool (a == b))
  | .neq => some (.bool (a != b))
  | .lss => some (.bool (decide (a < b)))
  | .leq => some (.bool (decide (a ≤ b)))
  | .gtr => some (.bool (decide (a > b)))
  | .geq => some (.bool (decide (a ≥ b)))
  | _ => none
def opEq (C : Ctx) (s : St) (o : Oper) (op : BinOp) (t : TypeId) (xs ys : Array Value) : Option Res := match op with
  | .eql => match aeqTop C.P t xs ys with
    | some b => quiet s (.pure (.bool b))
    | none => slow C s o
  | .neq => match aeqTop C.P t xs ys with
    | some b => quiet s (.pure (.bool (!b)))
    | none => slow C s o
  | _ => slow C s o
def opBin (C : Ctx) (s : St) (o : Oper) (op : BinOp) (t : TypeId) (x y : AV) : Option Res := match x, y with
  | .pure (.agg xs), .pure (.agg ys) => opEq C s o op t xs ys
  | .pure (.int .i64 a), .pure (.int .i64 b) => match fastInt op a b with
    | some v => quiet s (.pure v)
    | none => slow C s o
  | _, _ => slow C s o
def unlessPure {α : Type} (x : AV) (a b : α) : α := match x with
  | .pure _ => b
  | _ => a
/-- An operation that is no call of a function. -/
def aop (C : Ctx) (s : St) (o : Oper) : Option Res :=
  match o.op with
  | .move x => quiet s (aeval s.tmps x)
  | .assign x => quiet s (aeval s.tmps x)
  | .alloc e => opAlloc C s e
  | .box _ x => match solid (aeval s.tmps x) with
    | true => fresh s (cellsOf (aeval s.tmps x)) none (.ptr s.nxt 0)
    | false => none
  | .load t a => opLoad C s t (aeval s.tmps a)
  | .store t a x => opStore C s t (aeval s.tmps a) (aeval s.tmps x)
  | .buildSlice t len parts => opBuildSlice C s t len parts
  | .makeSlice t len cap => opMakeSlice C s t (aeval s.tmps len) (aeval s.tmps cap)
  | .fieldAddr t x i => unlessPure (aeval s.tmps x) (opFieldAddr C s t (aeval s.tmps x) i) (slow C s o)
  | .indexAddr t x ix => unlessPure (aeval s.tmps x) (opIndexAddr C s t (aeval s.tmps x) (aeval s.tmps ix)) (slow C s o)
  | .binOp op t x y _ => opBin C s o op t (aeval s.tmps x) (aeval s.tmps y)
  | .select _ _ => none
  | _ => slow C s o
/-- The function that a call enters, and its arguments. -/
def callee (tmps : List AV) (c : Call) : Option (FuncId × List AV) :=
  match c.callee with
  | .value x => match aeval tmps x with
    | .pure (.func (.func f) us vs) => some (f, us.toList.map .pure ++ c.args.toList.map (aeval tmps) ++ vs.toList.map .pure)
    | .func (.func f) us vs => some (f, us ++ c.args.toList.map (aeval tmps) ++ vs)
    | _ => none
  | _ => none
/-- Binding edges. -/
def depsOf (o : Oper) : List Nat := o.after.toList.filterMap fun e => match Region.binds .any e with | true => some e.on | false => none
/-- For each operation those that come before it. -/
def before (ops : List Oper) (acc : List (List Nat)) : List (List Nat) := match ops with
  | [] => acc
  | o :: ops => before ops (acc ++ [(List.range acc.length).filter fun j => (depsOf o).any fun d => Nat.beq d j || (acc.getD d []).any (Nat.beq j)])
def isStore : Op → Bool
  | .store _ _ _ => true
  | _ => false
/-- Where the first store stands. -/
def firstStore : List Oper → Nat
  | [] => 0
  | o :: os => match isStore o.op with
    | true => 0
    | false => firstStore os + 1
/-- Each operation of a region that draws its order sees what those before it have written, and no two write the same. -/
def baseOk (ops : Array Oper) : Bool :=
  let T := before ops.toList []
  (List.range ops.size).all fun i => match ops[i]?, T[i]? with
    | some o, some anc =>
      let U := o.looksAt ops
      ((depsOf o).all fun d => Nat.blt d i) &&
      (match o.op with | .select _ _ => false | _ => true) &&
      (List.range ops.size).all fun j => match ops[j]? with
        | some q => match q.dst with
          | some d => (!(U.any (Nat.beq d)) || anc.any (Nat.beq j) || (T.getD j []).any (Nat.beq i)) && (Nat.beq i j || match o.dst with | some e => !Nat.beq d e | none => true)
          | none => true
        | none => false
    | _, _ => false
/-- From the first store on all comes in its order. -/
def lastOk (ops : Array Oper) : Bool :=
  let T := before ops.toList []
  (List.range ops.size).all fun i => Nat.blt i (firstStore ops.toList) || Nat.beq (T.getD i []).length i
/-- Where what comes in its order begins. -/
def tailFrom (T : List (List Nat)) : Nat → Nat
  | 0 => 0
  | m + 1 => match Nat.beq (T.getD m []).length m with
    | true => tailFrom T m
    | false => m + 1
def splitOf (ops : Array Oper) : Nat := match lastOk ops with
  | true => match Nat.ble ops.size 40 with
    | true => tailFrom (before ops.toList []) (firstStore ops.toList)
    | false => firstStore ops.toList
  | false => firstStore ops.toList
def drawOk (ops : Array Oper) : Bool := baseOk ops && lastOk ops
/-- An operation that neither reads nor turns the world. -/
def quietOp : Op → Bool
  | .move _ => true
  | .assign _ => true
  | .extract _ _ => true
  | .binOp .mul _ (.const (.int _ _)) _ _ => true
  | _ => false
def bare (o : Oper) : Bool := match o.guard with
  | none => true
  | some _ => false
/-- Ahead of the first store quiet operations that it does not wait for; behind it all comes in its order, or is quiet and waits for it. -/
def lateOk (ops : Array Oper) : Bool :=
  let k := firstStore ops.toList
  let T := before ops.toList []
  baseOk ops && Nat.blt k ops.size && ((List.range ops.size).all fun i => match ops[i]? with
    | some o => match Nat.blt i k with
      | true => (T.getD k []).any (Nat.beq i) || (quietOp o.op && bare o)
      | false => match Nat.beq i k with
        | true => bare o && (match o.dst with | none => true | some _ => false)
        | false => true
    | none => false) && (((List.range ops.size).all fun i => Nat.ble i k || Nat.beq (T.getD i []).length i) || ((List.range ops.size).all fun i => Nat.ble i k || match ops[i]? with
    | some o => quietOp o.op && bare o && (T.getD i []).any (Nat.beq k)
    | none => false))
/-- What comes before the first store is quiet, or comes ahead of it. -/
def lateSel (ops : Array Oper) : Bool :=
  let k := firstStore ops.toList
  let T := before ops.toList []
  (List.range k).all fun i => match ops[i]? with
    | some o => (T.getD k []).any (Nat.beq i) || (quietOp o.op && bare o)
    | none => false
/-- An operation that reads at most. -/
def coolOp : Op → Bool
  | .load _ _ => true
  | .fieldAddr _ _ _ => true
  | .indexAddr _ _ _ => true
  | .binOp .add _ _ _ _ => true
  | .binOp .sub _ _ _ _ => true
  | .binOp .mul _ _ _ _ => true
  | .call c => match c.callee with
    | .builtin .min => true
    | .builtin .max => true
    | _ => false
  | op => quietOp op
/-- Ahead of the first store operations that read at most, for which it does not wait; behind it as before. -/
def coolRest (ops : Array Oper) : Bool :=
  let k := firstStore ops.toList
  let T := before ops.toList []
  Nat.blt k ops.size && ((List.range ops.size).all fun i => match ops[i]? with
    | some o => match Nat.blt i k with
      | true => (T.getD k []).any (Nat.beq i) || (coolOp o.op && bare o)
      | false => match Nat.beq i k with
        | true => bare o && (match o.dst with | none => true | some _ => false)
        | false => true
    | none => false) && (((List.range ops.size).all fun i => Nat.ble i k || Nat.beq (T.getD i []).length i) || ((List.range ops.size).all fun i => Nat.ble i k || match ops[i]? with
    | some o => quietOp o.op && bare o && (T.getD i []).any (Nat.beq k)
    | none => false))
def coolOk (ops : Array Oper) : Bool := baseOk ops && coolRest ops
/-- Cells that are named. -/
def cellsAt (h : AHeap) (n : Nat) : Bool := match hget h n with
  | some b => match b.kind with
    | .cells => true
    | _ => false
  | none => false
/-- What it reads lies apart from the block n. -/
def fitB (P : Program) (h : AHeap) (tm : List AV) (n : Nat) : Op → Bool
  | .load _ x => match aeval tm x with
    | .ptr m _ => !(Nat.beq m n) && cellsAt h m
    | _ => false
  | .fieldAddr s _ i => match undA P s with
    | some (.struct fs) => match listGet fs.toList i with
      | some f => match sizeT P f.type with
        | some (_ + 1) => true
        | _ => false
      | none => false
    | _ => false
  | .binOp .add _ x y _ => isIntA (aeval tm x) && isIntA (aeval tm y)
  | .binOp .sub _ x y _ => isIntA (aeval tm x) && isIntA (aeval tm y)
  | .binOp .mul _ x y _ => isIntA (aeval tm x) && isIntA (aeval tm y)
  | .call c => c.args.toList.all fun x => isIntA (aeval tm x)
  | _ => true
where isIntA : AV → Bool
  | .pure (.int _ _) => true
  | _ => false
/-- No operation from i on, below k, writes what is looked at. -/
def standsFrom (ops : Array Oper) (i k : Nat) (op : Op) : Bool := op.operands.toList.all fun x => match x with
  | .tmp t => (List.range k).all fun j => Nat.blt j i || match ops[j]? with
    | some q => match q.dst with
      | some d => !(Nat.beq d t)
      | none => true
    | none => true
  | _ => true
def isApp : Op → Bool
  | .call c => match c.callee with
    | .builtin .append => true
    | _ => false
  | _ => false
/-- An append for which what reads at most ahead of it need not wait, and which all behind it waits for. -/
def appOk1 (ops : Array Oper) (k : Nat) : Bool :=
  let T := before ops.toList []
  Nat.blt k ops.size && Nat.ble k (firstStore ops.toList) && ((List.range ops.size).all fun i => match ops[i]? with
    | some o => match Nat.blt i k with
      | true => (T.getD k []).any (Nat.beq i) || (coolOp o.op && bare o)
      | false => match Nat.beq i k with
        | true => bare o && isApp o.op
        | false => Nat.beq (T.getD i []).length i
    | none => false)
def appOk (ops : Array Oper) (k : Nat) : Bool := baseOk ops && appOk1 ops k
def hardFrom (C : Ctx) (f : FuncId) : Nat → List Oper → Option Nat
  | _, [] => none
  | i, o :: os => match isApp o.op, o.dst with
    | true, some d => match C.sym f (d + 3000000) with
      | true => some i
      | false => hardFrom C f (i + 1) os
    | _, _ => hardFrom C f (i + 1) os
/-- The first append that is told to come in its turn. -/
def hardAt (C : Ctx) (f : FuncId) (ops : Array Oper) : Option Nat := hardFrom C f 0 ops.toList
def rowName : AV → Option Nat
  | .sl n _ _ _ => some n
  | .slx n _ _ _ => some n
  | .bslx n _ _ _ => some n
  | _ => none
def rowAt (h : AHeap) (n : Nat) : Bool := match hget h n with
  | some b => match b.kind with
    | .cells => true
    | .big _ => true
    | _ => false
  | none => false
def isNilS : AV → Bool
  | .pure (.slice none _ _) => true
  | _ => false
/-- The block beside which all must lie that need not wait. -/
def appRow (x y : AV) : Option Nat := match isNilS x with
  | true => rowName y
  | false => rowName x
def appFit (P : Program) (ops : Array Oper) (k : Nat) (h : AHeap) (tm : List AV) (h1 : AHeap) : Bool := match ops[k]? with
  | some o => match o.op with
    | .call c => match c.args.toList, c.argTypes.toList with
      | [x, y], [_, u] => match undA P u, appRow (aeval tm x) (aeval tm y), rowName (aeval tm y) with
        | some (.slice _), some n, some m => rowAt h1 n && rowAt h1 m && (List.range k).all fun i => ((before ops.toList []).getD k []).any (Nat.beq i) || match ops[i]? with
          | some p => fitB P h tm n p.op && standsFrom ops i k p.op
          | none => false
        | _, _, _ => false
      | _, _ => false
    | _ => false
  | none => false
/-- Whether what does not wait for the first store lies apart from what it writes. h: the heap ahead of the region; tm, h1: behind what comes before the store. -/
def coolFit (P : Program) (ops : Array Oper) (h : AHeap) (tm : List AV) (h1 : AHeap) : Bool := match ops[firstStore ops.toList]? with
  | some o => match o.op with
    | .store _ xs _ => match aeval tm xs with
      | .ptr n _ => cellsAt h1 n && (List.range (firstStore ops.toList)).all fun i => ((before ops.toList []).getD (firstStore ops.toList) []).any (Nat.beq i) || match ops[i]? with
        | some p => fitB P h tm n p.op && standsFrom ops i (firstStore ops.toList) p.op
        | none => false
      | _ => false
    | _ => false
  | none => false
/-- The same operations in another order of writing. -/
def renOp (f : Nat → Nat) (o : Oper) : Oper := { o with after := (o.after.toList.map fun e => { e with on := f e.on }).toArray, guard := match o.guard with | some (j, b) => some (f j, b) | none => none }
def posIn : List Nat → Nat → Nat
  | [], _ => 0
  | x :: xs, i => match Nat.beq x i with
    | true => 0
    | false => posIn xs i + 1
/-- What does not wait for k comes ahead of it. -/
def ordFor (ops : Array Oper) (k : Nat) : List Nat :=
  let T := before ops.toList []
  List.range k ++ ((List.range ops.size).filter fun i => Nat.blt k i && !((T.getD i []).any (Nat.beq k))) ++ k :: ((List.range ops.size).filter fun i => Nat.blt k i && (T.getD i []).any (Nat.beq k))
def takeOps (f : Nat → Nat) (l : List Oper) : List Nat → List Oper
  | [] => []
  | i :: is => match listGet l i with
    | some o => renOp f o :: takeOps f l is
    | none => takeOps f l is
def movedBy (ord : List Nat) (ops : Array Oper) : Array Oper := (takeOps (posIn ord) ops.toList ord).toArray
def permB (ord : List Nat) (n : Nat) : Bool := Nat.beq ord.length n && (ord.all fun i => Nat.blt i n) && (List.range n).all fun i => Nat.blt (posIn ord i) n && match listGet ord i with
  | some j => Nat.beq (posIn ord j) i
  | none => false
def okCode : Code → Bool
  | .seq a b => okCode a && okCode b
  | .cond _ x y => okCode x && okCode y
  | .block _ c => okCode c
  | .loop c => okCode c
  | .region _ ops true => drawOk ops || lateOk ops || coolOk ops || (baseOk ops && !(lastOk ops || lateSel ops))
  | .rangeFunc _ _ a b => okCode a && okCode b
  | .region _ ops false => ops.all fun o => match o.op with | .select _ _ => false | _ => true
  | .skip => true
  | .exit _ => true
  | .ret => true
  | _ => false
def setT (tmps : List AV) (dst : Option Tmp) (v : AV) : List AV := match dst with
  | some d => tmps.set d v
  | none => tmps
def setTK {α : Type} (tmps : List AV) (dst : Option Tmp) (v : AV) (k : List AV → Option α) : Option α := match dst with
  | some d => setK tmps d v k
  | none => k tmps
/-- Is the operation wanted? A guard that is not decided takes its answer off the oracle. -/
def guardOf (C : Ctx) (f : FuncId) (ops : Array Oper) (tmps : List AV) (ora : List Bool) (o : Oper) : Option (Bool × List Bool × List (Bool × Bool)) :=
  match o.guard with
  | none => some (true, ora, [])
  | some (j, want) => match (listGet ops.toList j).bind (·.dst) with
    | some t => match listGet tmps t with
      | some (.pure (.bool b)) => match C.sym f t with
        | true => match ora with
          | q :: ora => some (q == want, ora, [(b, q)])
          | [] => none
        | false => some (b == want, ora, [])
      | some (.any _) => none
      | _ => some (false, ora, [])
    | none => some (false, ora, [])
inductive Job where
  | code (f : FuncId) (c : Code)
  | loop (f : FuncId) (c : Code)
  | ops (f : FuncId) (ops : Array Oper) (todo : List Oper)
  | draw (f : FuncId) (ops : Array Oper) (todo : List Oper) (base : Nat) (seen : List AHeap) (acc : List AHeap)
  | op (f : FuncId) (o : Oper)
  | enter (f : FuncId) (args : List AV)
/-- The blocks whose names are not there yet. -/
def newIn (a : AHeap) : AHeap → AHeap
  | [] => []
  | (m, b) :: h => match hget a m with
    | some _ => newIn a h
    | none => (m, b) :: newIn a h
/-- What the operations that come before one have made, as it sees it. -/
def seenBy (seen : List AHeap) : List Nat → AHeap
  | [] => []
  | j :: js => (seen.getD j []) ++ newIn (seen.getD j []) (seenBy seen js)
def aresult (C : Ctx) (tmps : List AV) (h : AHeap) : ResultVar → Option AV
  | .tmp t => some (slot tmps t)
  | .cell a t => match slot tmps a with
    | .ptr b off => aload C h t (.ptr b off)
    | _ => none
def aresults (C : Ctx) (tmps : List AV) (h : AHeap) : List ResultVar → Option (List AV)
  | [] => some []
  | r :: rs => match aresult C tmps h r, aresults C tmps h rs with
    | some v, some vs => some (v :: vs)
    | _, _ => none
def resultOf (vs : List AV) : AV := match vs with
  | [v] => v
  | vs => mkTuple vs
def isOff : AX → Bool
  | .normal => true
  | .ret => true
  | _ => false
def withCond (b q : Bool) : Option Out → Option Out
  | some ⟨x, s2, l2, ⟨c2, k2⟩⟩ => some ⟨x, s2, l2, ⟨(b, q) :: c2, k2⟩⟩
  | none => none
def behind (low : Nat) (l : List (Bool × Bool)) (k : List Ask) : Option Out → Option Out
  | some ⟨x, s2, l2, ⟨c2, k2⟩⟩ => some ⟨x, s2, Nat.min low l2, ⟨l ++ c2, k ++ k2⟩⟩
  | none => none
abbrev Rec := Job → St → Option Out
def stay (x : AX) : St → Option Out
  | ⟨tm, h, nx, ora, rs⟩ => some ⟨x, ⟨tm, h, nx, ora, rs⟩, nx, ⟨[], []⟩⟩
def goSeq (R : Rec) (f : FuncId) (b : Code) : Option Out → Option Out
  | some ⟨.normal, s1, l1, ⟨c1, k1⟩⟩ => behind l1 c1 k1 (R (.code f b) s1)
  | r => r
def goLoop (R : Rec) (f : FuncId) (c : Code) : Option Out → Option Out
  | some ⟨.normal, s1, l1, ⟨c1, k1⟩⟩ => behind l1 c1 k1 (R (.loop f c) s1)
  | r => r
def pickCode (b : Bool) (x y : Code) : Code := match b with | true => x | false => y
def asked (C : Ctx) (f : FuncId) : Operand → Bool
  | .tmp t => C.sym f t
  | _ => false
def goCond (C : Ctx) (R : Rec) (f : FuncId) (c : Operand) (x y : Code) : St → Option Out
  | ⟨tm, h, nx, ora, rs⟩ => match aeval tm c with
    | .pure (.bool b) => match asked C f c with
      | true => match ora with
        | q :: ora => withCond b q (R (.code f (pickCode q x y)) ⟨tm, h, nx, ora, rs⟩)
        | [] => none
      | false => R (.code f (pickCode b x y)) ⟨tm, h, nx, ora, rs⟩
    | _ => none
def goBlock (id : Nat) : Option Out → Option Out
  | some ⟨.exit j, s1, l1, g1⟩ => match Nat.beq j id with
    | true => some ⟨.normal, s1, l1, g1⟩
    | false => some ⟨.exit j, s1, l1, g1⟩
  | r => r
/-- Behind what may come in any order, what comes last. -/
def goTail (R : Rec) (f : FuncId) (ops : Array Oper) (m : Nat) : Option Out → Option Out
  | some ⟨.normal, s1, l1, ⟨c1, k1⟩⟩ => behind l1 c1 k1 (R (.ops f ops (ops.toList.drop m)) s1)
  | _ => none
def goCool (C : Ctx) (R : Rec) (f : FuncId) (ops : Array Oper) (h : AHeap) : Option Out → Option Out
  | some ⟨.normal, s1, l1, ⟨c1, k1⟩⟩ => match coolFit C.P ops h s1.tmps s1.heap with
    | true => behind l1 c1 k1 (R (.ops f ops (ops.toList.drop (firstStore ops.toList))) s1)
    | false => none
  | _ => none
def goHard (C : Ctx) (R : Rec) (f : FuncId) (ops : Array Oper) (k : Nat) (h : AHeap) : Option Out → Option Out
  | some ⟨.normal, s1, l1, ⟨c1, k1⟩⟩ => match appFit C.P ops k h s1.tmps s1.heap with
    | true => behind l1 c1 k1 (R (.ops f ops (ops.toList.drop k)) s1)
    | false => none
  | _ => none
def goMoved (C : Ctx) (R : Rec) (f : FuncId) (ops ops2 : Array Oper) (ord : List Nat) (k : Nat) (s : St) : Option Out := match permB ord ops.size && appOk ops2 k with
  | true => goHard C R f ops2 k s.heap (R (.draw f ops2 (ops2.toList.take k) s.nxt [] []) s)
  | false => none
def frOK (nx : Nat) (fr : AFrame) : Bool := (match fr.rnd with | none => true | some l => Nat.blt l nx) && fr.marks.all fun d => Nat.blt d nx
/-- The function that a value is, with what comes before and behind its arguments. -/
def funOf : AV → Option (FuncId × List AV × List AV)
  | .pure (.func (.func g) us vs) => some (g, us.toList.map .pure, vs.toList.map .pure)
  | .func (.func g) us vs => some (g, us, vs)
  | _ => none
/-- What becomes of the statement once the function that is ranged over has returned. -/
def rangeEnd (l : Nat) (tm : List AV) (fr : AFrame) : Option Out → Option Out
  | some ⟨.val _, ⟨_, h1, nx1, ora1, rs1⟩, l1, g1⟩ => match hget h1 l with
    | some ⟨_, _, .loop r⟩ => match r.st with
      | .ready => some ⟨.normal, ⟨tm, hdel h1 l, nx1, ora1, ⟨rs1.vals, fr⟩⟩, l1, g1⟩
      | .ret => some ⟨.ret, ⟨tm, hdel h1 l, nx1, ora1, ⟨rs1.vals, fr⟩⟩, l1, g1⟩
      | .exit id => some ⟨.exit id, ⟨tm, hdel h1 l, nx1, ora1, ⟨rs1.vals, fr⟩⟩, l1, g1⟩
      | .busy => none
    | _ => none
  | _ => none
def noFrame : AFrame := ⟨none, []⟩
def rangeRun (R : Rec) (f : FuncId) (q : FuncId × List AV × List AV) (ps : Array Tmp) (asg body : Code) (tm : List AV) (h : AHeap) (l : Nat) (ora : List Bool) (vals : List D) (fr : AFrame) : Option Out :=
  rangeEnd l tm fr (R (.enter q.1 (q.2.1 ++ [.yld l] ++ q.2.2)) ⟨[], (l, ⟨tm, none, .loop ⟨f, ps, asg, body, .ready⟩⟩) :: h, l + 1, ora, ⟨vals, noFrame⟩⟩)
def goRange (C : Ctx) (R : Rec) (f : FuncId) (g : Operand) (ps : Array Tmp) (asg body : Code) : St → Option Out
  | ⟨tm, h, nx, ora, rs⟩ => match funOf (aeval tm g) with
    | some q => match (match listGet C.P.funcs.toList q.1 with | some fn => fn.body.isSome | none => false) with
      | true => match rs.fr.rnd with
        | none => withNat (nx + 1) fun l => rangeRun R f q ps asg body tm ((nx, ⟨[], none, .dfr⟩) :: h) l ora rs.vals ⟨none, nx :: rs.fr.marks⟩
        | some l0 => match hget h l0 with
          | some ⟨_, _, .loop _⟩ => rangeRun R f q ps asg body tm h nx ora rs.vals rs.fr
          | _ => none
      | false => none
    | none => none
def goCode (C : Ctx) (R : Rec) (f : FuncId) (c : Code) (s : St) : Option Out := match c with
  | .rangeFunc g ps asg body => goRange C R f g ps asg body s
  | .skip => stay .normal s
  | .seq a b => goSeq R f b (R (.code f a) s)
  | .cond c x y => goCond C R f c x y s
  | .block id body => goBlock id (R (.code f body) s)
  | .loop body => match s with
    | ⟨tm, h, nx, ora, rs⟩ => match C.lp f body tm h nx rs.vals with
      | some (⟨o, tm1, h1, nx1, low⟩, vals1) => match AV.okL nx1 tm1 && Nat.ble nx nx1 && frOK nx rs.fr with
        | true => match o with
          | none => some ⟨.ret, ⟨tm1, h1, nx1, ora, ⟨vals1, rs.fr⟩⟩, low, ⟨[], [.loop body ⟨tm, h, nx, ora, rs⟩ .ret ⟨tm1, h1, nx1, ora, ⟨vals1, rs.fr⟩⟩ low]⟩⟩
          | some id => some ⟨.exit id, ⟨tm1, h1, nx1, ora, ⟨vals1, rs.fr⟩⟩, low, ⟨[], [.loop body ⟨tm, h, nx, ora, rs⟩ (.exit id) ⟨tm1, h1, nx1, ora, ⟨vals1, rs.fr⟩⟩ low]⟩⟩
        | false => none
      | none => R (.loop f body) ⟨tm, h, nx, ora, rs⟩
  | .exit id => stay (.exit id) s
  | .ret => stay .ret s
  | .region _ ops draw => match draw with
    | false => R (.ops f ops ops.toList) s
    | true => match hardAt C f ops with
      | some k => match appOk1 ops k with
        | true => goHard C R f ops k s.heap (R (.draw f ops (ops.toList.take k) s.nxt [] []) s)
        | false => goMoved C R f ops (movedBy (ordFor ops k) ops) (ordFor ops k) (posIn (ordFor ops k) k) s
      | none => match lastOk ops || lateSel ops with
        | true => goTail R f ops (splitOf ops) (R (.draw f ops (ops.toList.take (splitOf ops)) s.nxt [] []) s)
        | false => match coolRest ops with
          | true => goCool C R f ops s.heap (R (.draw f ops (ops.toList.take (firstStore ops.toList)) s.nxt [] []) s)
          | false => none
  | _ => none
def goOp1 (R : Rec) (f : FuncId) (ops : Array Oper) (rest : List Oper) (tm : List AV) (dst : Option Tmp) (l : List (Bool × Bool)) : Option Out → Option Out
  | some ⟨.val v, ⟨_, h1, nx1, ora2, rs1⟩, l1, ⟨c1, k1⟩⟩ => setTK tm dst v fun tm1 => behind l1 (l ++ c1) k1 (R (.ops f ops rest) ⟨tm1, h1, nx1, ora2, rs1⟩)
  | _ => none
def goOps (C : Ctx) (R : Rec) (f : FuncId) (ops : Array Oper) (todo : List Oper) : St → Option Out
  | ⟨tm, h, nx, ora, rs⟩ => match todo with
    | [] => stay .normal ⟨tm, h, nx, ora, rs⟩
    | o :: rest => match guardOf C f ops tm ora o with
      | none => none
      | some (false, ora1, l) => setTK tm o.dst (.pure undef) fun tm1 => behind nx l [] (R (.ops f ops rest) ⟨tm1, h, nx, ora1, rs⟩)
      | some (true, ora1, l) => goOp1 R f ops rest tm o.dst l (R (.op f o) ⟨tm, h, nx, ora1, rs⟩)
/-- Which names an operation of a region that draws its order may hand on. -/
def mayName (base nx : Nat) (mine : AHeap) (n : Nat) : Bool := match Nat.blt n base with
  | true => true
  | false => match Nat.ble nx n with
    | true => true
    | false => match hget mine n with
      | some _ => true
      | none => false
def heapWithin (p : Nat → Bool) : AHeap → Bool
  | [] => true
  | (_, b) :: h => AV.withinL p b.cells && heapWithin p h
def goDraw1 (R : Rec) (f : FuncId) (ops : Array Oper) (todo : List Oper) (base : Nat) (seen acc : List AHeap) (mine : AHeap) (tm : List AV) (h : AHeap) (nx : Nat) (dst : Option Tmp) (l : List (Bool × Bool)) : Option Out → Option Out
  | some ⟨.val v, ⟨_, h1, nx1, ora2, rs1⟩, l1, ⟨c1, k1⟩⟩ => match Nat.ble nx l1 && v.within (mayName base nx mine) && heapWithin (mayName base nx mine) (hfrom h1 nx) with
    | true => setTK tm dst v fun tm1 => behind nx (l ++ c1) k1 (R (.draw f ops todo base (seen ++ [hfrom h1 nx ++ mine]) (acc ++ [hfrom h1 nx])) ⟨tm1, h, nx1, ora2, rs1⟩)
    | false => none
  | _ => none
def goDraw (C : Ctx) (R : Rec) (f : FuncId) (ops : Array Oper) (todo : List Oper) (base : Nat) (seen acc : List AHeap) : St → Option Out
  | ⟨tm, h, nx, ora, rs⟩ => match todo with
    | [] => stay .normal ⟨tm, acc.flatten ++ h, nx, ora, rs⟩
    | o :: todo => match isStore o.op with
     | true => match o.dst with
       | none => behind nx [] [] (R (.draw f ops todo base (seen ++ [[]]) (acc ++ [[]])) ⟨tm, h, nx, ora, rs⟩)
       | some _ => none
     | false => match guardOf C f ops tm ora o with
      | none => none
      | some (false, ora1, l) => setTK tm o.dst (.pure undef) fun tm1 => behind nx l [] (R (.draw f ops todo base (seen ++ [[]]) (acc ++ [[]])) ⟨tm1, h, nx, ora1, rs⟩)
      | some (true, ora1, l) => goDraw1 R f ops todo base seen acc (seenBy seen (depsOf o)) tm h nx o.dst l (R (.op f o) ⟨tm, seenBy seen (depsOf o) ++ h, nx, ora1, rs⟩)
def backTo (tm : List AV) : Option Out → Option Out
  | some ⟨x, ⟨_, h1, nx1, ora1, rs1⟩, l1, g1⟩ => some ⟨x, ⟨tm, h1, nx1, ora1, rs1⟩, l1, g1⟩
  | none => none
def isDefer : Op → Bool
  | .defer _ => true
  | _ => false
def goPlain (C : Ctx) (o : Oper) : St → Option Out
  | ⟨tm, h, nx, ora, rs⟩ => match isDefer o.op with
   | true => none
   | false => match aop C ⟨tm, h, nx, ora, rs⟩ o with
    | some (v, h1, nx1, low) => withNat nx1 fun nx1 => forceV v fun v => match v.ok nx1 && Nat.ble nx nx1 with
      | true => some ⟨.val v, ⟨tm, h1, nx1, ora, rs⟩, low, ⟨[], []⟩⟩
      | false => none
    | none => none
/-- A quotient or a remainder: what is divided by must not be 0. -/
def divOf (tm : List AV) (o : Oper) : Option (Value × Bool) := match o.op with
  | .binOp .quo _ x y _ => match aeval tm x, aeval tm y with
    | .pure (.int .i64 a), .pure (.int .i64 b) => some (.int .i64 (IntKind.i64.wrap (a.tdiv b)), b == 0)
    | _, _ => none
  | .binOp .rem _ x y _ => match aeval tm x, aeval tm y with
    | .pure (.int .i64 a), .pure (.int .i64 b) => some (.int .i64 (a.tmod b), b == 0)
    | _, _ => none
  | _ => none
def goDiv (C : Ctx) (o : Oper) : St → Option Out
  | ⟨tm, h, nx, ora, rs⟩ => match divOf tm o with
    | some (v, b) => some ⟨.val (.pure v), ⟨tm, h, nx, ora, rs⟩, nx, ⟨[(b, false)], []⟩⟩
    | none => goPlain C o ⟨tm, h, nx, ora, rs⟩
def goCall (R : Rec) (c : Call) : St → Option Out
  | ⟨tm, h, nx, ora, rs⟩ => match callee tm c with
    | some (g, vs) => backTo tm (R (.enter g vs) ⟨[], h, nx, ora, rs⟩)
    | none => none
/-- A choice by a truth that may not be decided. -/
def goPick (C : Ctx) (f : FuncId) (o : Oper) (c x y : Operand) : St → Option Out
  | ⟨tm, h, nx, ora, rs⟩ => match asked C f c with
    | false => goPlain C o ⟨tm, h, nx, ora, rs⟩
    | true => match aeval tm c, ora with
      | .pure (.bool b), q :: ora => match q with
        | true => forceV (aeval tm x) fun v => match v.ok nx with
          | true => some ⟨.val v, ⟨tm, h, nx, ora, rs⟩, nx, ⟨[(b, true)], []⟩⟩
          | false => none
        | false => forceV (aeval tm y) fun v => match v.ok nx with
          | true => some ⟨.val v, ⟨tm, h, nx, ora, rs⟩, nx, ⟨[(b, false)], []⟩⟩
          | false => none
      | _, _ => none
/-- Arguments put into the parameters. -/
def setMany {α : Type} (tm : List AV) : List (Tmp × AV) → (List AV → Option α) → Option α
  | [], k => k tm
  | (t, v) :: ps, k => setK tm t v fun tm => setMany tm ps k
def jumpOf : AX → Option (RState × Bool)
  | .normal => some (.ready, true)
  | .ret => some (.ret, false)
  | .exit id => some (.exit id, false)
  | .val _ => none
def yieldOf (tm : List AV) (c : Call) : Option (Nat × List AV) := match c.callee with
  | .value x => match aeval tm x with
    | .yld l => some (l, c.args.toList.map (aeval tm))
    | _ => none
  | _ => none
def yieldEnd (l : Nat) (tm : List AV) (fr : AFrame) (l2 : Nat) (c2 : List (Bool × Bool)) (k2 : List Ask) : Option Out → Option Out
  | some ⟨x, ⟨_, h3, nx3, ora3, rs3⟩, l3, ⟨c3, k3⟩⟩ => match hget h3 l, jumpOf x with
    | some ⟨cs3, on3, .loop r3⟩, some (j, b) => match r3.st with
      | .busy => hputK h3 l ⟨cs3, on3, .loop ⟨r3.f, r3.ps, r3.asg, r3.body, j⟩⟩ fun h3 => some ⟨.val (.pure (.bool b)), ⟨tm, h3, nx3, ora3, ⟨rs3.vals, fr⟩⟩, Nat.min l2 (Nat.min l l3), ⟨c2 ++ c3, k2 ++ k3⟩⟩
      | _ => none
    | _, _ => none
  | none => none
def yieldMid (R : Rec) (l : Nat) (r : ARec) (tm : List AV) (fr : AFrame) : Option Out → Option Out
  | some ⟨.normal, ⟨tm2, h2, nx2, ora2, rs2⟩, l2, ⟨c2, k2⟩⟩ => match hget h2 l with
    | some ⟨cs2, on2, .loop r2⟩ => match r2.st with
      | .ready => hputK h2 l ⟨cs2, on2, .loop ⟨r2.f, r2.ps, r2.asg, r2.body, .busy⟩⟩ fun h2 => yieldEnd l tm fr l2 c2 k2 (R (.code r.f r.body) ⟨tm2, h2, nx2, ora2, rs2⟩)
      | _ => none
    | _ => none
  | _ => none
def goYield (R : Rec) (l : Nat) (args : List AV) : St → Option Out
  | ⟨tm, h, nx, ora, rs⟩ => match hget h l with
    | some ⟨cs, _, .loop r⟩ => match r.st, Nat.beq args.length r.ps.size && okCode r.asg && okCode r.body with
      | .ready, true => setMany cs (r.ps.toList.zip args) fun tm1 => match AV.okL nx tm1 with
        | true => yieldMid R l r tm rs.fr (R (.code r.f r.asg) ⟨tm1, h, nx, ora, ⟨rs.vals, ⟨some l, []⟩⟩⟩)
        | false => none
      | _, _ => none
    | _ => none
/-- A truth that is not decided. -/
def fact (P : Prop) : Bool := @decide P (Classical.propDecidable P)
/-- A list with some of its items replaced. -/
def splice (L : List D) (off : Nat) (vs : List D) : List D := L.take off ++ vs ++ L.drop (off + vs.length)
/-- A plain value in depth. -/
def dCell (v : Value) : D := match v with
  | .slice none 0 0 => .list 0 []
  | v => .one v
def dVal1 (v : Value) : D := match v with
  | .agg vs => .agg (vs.toList.map dCell)
  | v => dCell v
def dVal (v : Value) : D := match v with
  | .tuple vs => .tup (vs.toList.map dVal1)
  | v => dVal1 v
/-- So many zero values, as cells. -/
def manyZeros (z : List Value) (n : Nat) : List D := ((List.replicate n z).flatten).map dCell
def bigOf (h : AHeap) (n : Nat) : Option (List D × Option Nat) := match hget h n with
  | some b => match b.kind with
    | .big L => some (L, b.opn)
    | _ => none
  | none => none
def deepOf (h : AHeap) (n : Nat) : Option (Nat × List D) := match hget h n with
  | some b => match b.kind with
    | .deep k cs => some (k, cs)
    | _ => none
  | none => none
/-- May it stand in one cell? -/
def cellD : D → Prop
  | .one v => v.oneCell' = true
  | .list _ _ => True
  | _ => False
mutual
/-- No slice is in it. -/
def flatD : D → Bool
  | .one _ => true
  | .list _ _ => false
  | .agg cs => flatDs cs
  | .tup cs => flatDs cs
def flatDs : List D → Bool
  | [] => true
  | c :: cs => flatD c && flatDs cs
end
mutual
/-- A value in depth as one with names. -/
def avOf (nx : Nat) : D → AV × AHeap × Nat
  | .one v => (.pure v, [], nx)
  | .list k cs => (.dsl nx, [(nx, ⟨[], none, .deep k cs⟩)], nx + 1)
  | .agg cs => match avOfL nx cs with
    | (xs, es, n) => (mkAgg xs, es, n)
  | .tup cs => match avOfL nx cs with
    | (xs, es, n) => (mkTuple xs, es, n)
def avOfL (nx : Nat) : List D → List AV × AHeap × Nat
  | [] => ([], [], nx)
  | c :: cs => match avOf nx c with
    | (x, es, n) => match avOfL n cs with
      | (xs, es2, n2) => (x :: xs, es2 ++ es, n2)
end
def dropD (off : Nat) (L : List D) : List D := match off with
  | 0 => L
  | n + 1 => L.drop (n + 1)
/-- In depth, what the blocks are that it lies in, and what must hold. -/
structure DV where
  d : D
  drops : List Nat
  conds : List (Bool × Bool)
structure DVs where
  ds : List D
  drops : List Nat
  conds : List (Bool × Bool)
/-- A cell in depth. -/
def dOfCell (h : AHeap) : AV → Option DV
  | .pure v => some ⟨dCell v, [], []⟩
  | .dsl n => match deepOf h n with
    | some (k, cs) => some ⟨.list k cs, [], []⟩
    | none => none
  | .bsl m off len cap => match bigOf h m with
    | some (L, _) => some ⟨.list len (dropD off L), [m], [(fact (len ≤ cap), true)]⟩
    | none => none
  | .bslx m off len sub => match bigOf h m with
    | some (L, some k) => some ⟨.list len (dropD off L), [m], [(fact ((sub + len) * k ≤ L.length ∧ 0 < k), true)]⟩
    | _ => none
  | _ => none
def dOfCells (h : AHeap) : List AV → Option DVs
  | [] => some ⟨[], [], []⟩
  | x :: xs => match dOfCell h x, dOfCells h xs with
    | some ⟨d, a, c⟩, some ⟨ds, as, cs⟩ => some ⟨d :: ds, a ++ as, c ++ cs⟩
    | _, _ => none
/-- A slice whose block is laid open. -/
def dOfSl (h : AHeap) : AV → Option DV
  | .sl m off len cap => match hcells h m with
    | some blk => match dOfCells h blk.cells with
      | some ⟨ds, a, c⟩ => some ⟨.list len (dropD off ds), m :: a, (fact (len ≤ cap), true) :: c⟩
      | none => none
    | none => none
  | .slx m off len sub => match hcells h m with
    | some ⟨cs, some k, _⟩ => match dOfCells h cs with
      | some ⟨ds, a, c⟩ => some ⟨.list len (dropD off ds), m :: a, (fact ((sub + len) * k ≤ cs.length ∧ 0 < k), true) :: c⟩
      | none => none
    | _ => none
  | x => dOfCell h x
/-- Cells of a struct; some may be slices whose blocks are laid open. -/
def dOfSls (h : AHeap) : List AV → Option DVs
  | [] => some ⟨[], [], []⟩
  | x :: xs => match dOfSl h x, dOfSls h xs with
    | some ⟨d, a, c⟩, some ⟨ds, as, cs⟩ => some ⟨d :: ds, a ++ as, c ++ cs⟩
    | _, _ => none
def dOf1 (h : AHeap) : AV → Option DV
  | .pure v => some ⟨dVal1 v, [], []⟩
  | .agg xs => match dOfSls h xs with
    | some ⟨ds, a, c⟩ => some ⟨.agg ds, a, c⟩
    | none => none
  | x => dOfSl h x
def dOf1L (h : AHeap) : List AV → Option DVs
  | [] => some ⟨[], [], []⟩
  | x :: xs => match dOf1 h x, dOf1L h xs with
    | some ⟨d, a, c⟩, some ⟨ds, as, cs⟩ => some ⟨d :: ds, a ++ as, c ++ cs⟩
    | _, _ => none
def dOf (h : AHeap) : AV → Option DV
  | .pure v => some ⟨dVal v, [], []⟩
  | .tuple xs => match dOf1L h xs with
    | some ⟨ds, a, c⟩ => some ⟨.tup ds, a, c⟩
    | none => none
  | x => dOf1 h x
/-- A slice without cells and without room. -/
def voidAt (h : AHeap) (n : Nat) : Bool := match hget h n with
  | some b => match b.kind, b.opn with
    | .deep 0 [], some 0 => true
    | _, _ => false
  | none => false
def hdelL (h : AHeap) : List Nat → AHeap
  | [] => h
  | n :: ns => hdelL (hdel h n) ns
def lowOf : List Nat → Nat → Nat
  | [], l => l
  | d :: ds, l => Nat.min d (lowOf ds l)
def outB (tm : List AV) (h : AHeap) (nx : Nat) (ora : List Bool) (rs : Rs) (v : AV) (low : Nat) (p : Prop) : Option Out := some ⟨.val v, ⟨tm, h, nx, ora, rs⟩, low, ⟨[(fact p, true)], []⟩⟩
/-- A value in depth is given: under new names. -/
def outD (tm : List AV) (h : AHeap) (nx : Nat) (ora : List Bool) (rs : Rs) (d : D) (low : Nat) (c : List (Bool × Bool)) (k : List Ask) : Option Out := match avOf nx d with
  | (v, es, n) => withNat n fun n => forceV v fun v => some ⟨.val v, ⟨tm, es ++ h, n, ora, rs⟩, low, ⟨c, k⟩⟩
/-- An index into a block whose contents are not laid open. -/
def bigIndex (C : Ctx) (t : TypeId) (x ix : AV) : St → Option Out
  | ⟨tm, h, nx, ora, rs⟩ => match ix, undA C.P t with
    | .pure (.int _ i), some (.slice e) => match sizeT C.P e with
      | some size => match x with
        | .bsl n off len _ => match Nat.blt n nx with
          | true => outB tm h nx ora rs (.bptr n (off + i.toNat * size)) nx (0 ≤ i ∧ i.toNat < len)
          | false => none
        | .bslx n off len _ => match Nat.blt n nx with
          | true => outB tm h nx ora rs (.bptr n (off + i.toNat * size)) nx (0 ≤ i ∧ i.toNat < len)
          | false => none
        | .dsl n => match deepOf h n, Nat.blt n nx with
          | some (k, _), true => outB tm h nx ora rs (.dptr n (i.toNat * size)) nx (0 ≤ i ∧ i.toNat < k)
          | _, _ => none
        | _ => none
      | none => none
    | .pure (.int _ i), some (.array m e) => match sizeT C.P e with
      | some size => match x with
        | .dptr n off => match deepOf h n, Nat.blt n nx with
          | some (k, _), true => outB tm h nx ora rs (.dptr n (off + i.toNat * size)) nx (0 ≤ i ∧ i.toNat < m ∧ 0 < k)
          | _, _ => none
        | _ => none
      | none => none
    | _, _ => none
/-- The cells that are read at a place: given, and told to be so. -/
def readsAs (L : List D) (off size : Nat) (g : Bool) (d : D) : Prop := match g with
  | false => L[off]? = some d
  | true => ∃ ds, d = .agg ds ∧ ds.length = size ∧ 0 < size ∧ (L.drop off).take size = ds
/-- What is read there: a value that is given. -/
def bigLoad (C : Ctx) (t : TypeId) (x : AV) : St → Option Out
  | ⟨tm, h, nx, ora, ⟨vals, fr⟩⟩ => match x, vals with
    | .bptr n off, d :: vals => match bigOf h n, aggType C.P t, sizeT C.P t with
      | some (L, _), some g, some size => outD tm h nx ora ⟨vals, fr⟩ d nx [(fact (readsAs L off size g d), true)] []
      | _, _, _ => none
    | .dptr n off, d :: vals => match deepOf h n, aggType C.P t, sizeT C.P t with
      | some (_, cs), some g, some size => outD tm h nx ora ⟨vals, fr⟩ d nx [(fact (readsAs cs off size g d), true)] []
      | _, _, _ => none
    | _, _ => none
/-- A field of what lies in depth. -/
def deepField (C : Ctx) (t : TypeId) (x : AV) (i : Nat) : St → Option Out
  | ⟨tm, h, nx, ora, rs⟩ => match undA C.P t, x with
    | some (.struct fs), .dptr n off => match listGet fs.toList i with
      | some f => match sizeT C.P f.type, deepOf h n, Nat.blt n nx with
        | some (_ + 1), some (k, _), true => outB tm h nx ora rs (.dptr n (off + f.offset)) nx (0 < k)
        | _, _, _ => none
      | none => none
    | _, _ => none
/-- How many elements. -/
def deepLen (C : Ctx) (c : Call) : St → Option (Option Out)
  | ⟨tm, h, nx, ora, rs⟩ => match c.args.toList, c.argTypes.toList with
    | [x], [t] => match aeval tm x, undA C.P t with
      | .dsl n, some (.slice _) => match deepOf h n with
        | some (k, _) => some (some ⟨.val (.pure (.int .i64 k)), ⟨tm, h, nx, ora, rs⟩, nx, ⟨[], []⟩⟩)
        | none => some none
      | _, _ => none
    | _, _ => none
def ixOf (tm : List AV) (d : Int) : Option Operand → Option Int
  | none => some d
  | some o => match aeval tm o with
    | .pure (.int _ i) => some i
    | _ => none
/-- A part of a slice in depth. -/
def deepSlice (C : Ctx) (t : TypeId) (n : Nat) (lo hi mx : Option Operand) : St → Option Out
  | ⟨tm, h, nx, ora, rs⟩ => match mx, deepOf h n, undA C.P t with
    | none, some (k, cs), some (.slice e) => match sizeT C.P e, ixOf tm 0 lo, ixOf tm k hi with
      | some size, some l, some u => outD tm h nx ora rs (.list (u.toNat - l.toNat) ((cs.drop (l.toNat * size)).take ((u.toNat - l.toNat) * size))) nx
          [(fact (0 ≤ l ∧ l ≤ u ∧ u ≤ (k : Int) ∧ cs.length = k * size), true)] []
      | _, _, _ => none
    | _, _, _ => none
/-- A part of what is made. -/
def bigSlice (C : Ctx) (t : TypeId) (n off len cap : Nat) (lo hi : Option Operand) : St → Option Out
  | ⟨tm, h, nx, ora, rs⟩ => match undA C.P t with
    | some (.slice e) => match sizeT C.P e, ixOf tm 0 lo, ixOf tm len hi, Nat.blt n nx with
      | some size, some l, some u, true => outB tm h nx ora rs (.bsl n (off + l.toNat * size) (u.toNat - l.toNat) (cap - l.toNat)) nx (0 ≤ l ∧ l ≤ u ∧ u ≤ (cap : Int) ∧ l < (cap : Int))
      | _, _, _, _ => none
    | _ => none
def zeroIx (tm : List AV) : Option Operand → Bool
  | some o => match aeval tm o with
    | .pure (.int _ (.ofNat 0)) => true
    | _ => false
  | none => false
/-- Nothing of a slice in depth, without room. -/
def voidSlice (C : Ctx) (t : TypeId) (n : Nat) (lo hi mx : Option Operand) : St → Option Out
  | ⟨tm, h, nx, ora, rs⟩ => match lo, deepOf h n, undA C.P t with
    | none, some (_, _), some (.slice e) => match sizeT C.P e, zeroIx tm hi, zeroIx tm mx with
      | some _, true, true => withNat (nx + 1) fun nx1 => some ⟨.val (.dsl nx), ⟨tm, (nx, ⟨[], some 0, .deep 0 []⟩) :: h, nx1, ora, rs⟩, nx, ⟨[], []⟩⟩
      | _, _, _ => none
    | _, _, _ => none
/-- Is a slice in depth nil? It is not, if it has elements. -/
def deepNil (n : Nat) : St → Option Out
  | ⟨tm, h, nx, ora, rs⟩ => match deepOf h n with
    | some (k, _) => outB tm h nx ora rs (.pure (.bool false)) nx (0 < k)
    | none => none
/-- A byte of a string. -/
def byteAt (s : ByteArray) (n : Nat) : Int := match s[n]? with
  | some b => (b.toNat : Int)
  | none => 0
def strIndex (C : Ctx) (t : TypeId) (s : ByteArray) (ix : AV) : St → Option Out
  | ⟨tm, h, nx, ora, rs⟩ => match ix, undA C.P t with
    | .pure (.int _ i), some .string => outB tm h nx ora rs (.pure (.int .u8 (byteAt s i.toNat))) nx (0 ≤ i ∧ i.toNat < s.size)
    | _, _ => none
def strSlice (C : Ctx) (t : TypeId) (s : ByteArray) (lo hi mx : Option Operand) : St → Option Out
  | ⟨tm, h, nx, ora, rs⟩ => match mx, undA C.P t, ixOf tm 0 lo, ixOf tm s.size hi with
    | none, some .string, some l, some u => outB tm h nx ora rs (.pure (.string (s.extract l.toNat u.toNat))) nx (0 ≤ l ∧ l ≤ u ∧ u ≤ (s.size : Int))
    | _, _, _, _ => none
def strOf : AV → Option ByteArray
  | .pure (.string s) => some s
  | _ => none
def marked (C : Ctx) (f : FuncId) (o : Oper) : Bool := match o.dst with
  | some d => C.sym f (d + 1000000)
  | none => false
def bigStore (C : Ctx) (t : TypeId) (x v : AV) : St → Option Out
  | ⟨tm, h, nx, ora, rs⟩ => match x with
    | .bptr n off => match dOfCells h (cellsOf v) with
      | some ⟨ds, drops, cs⟩ => match bigOf (hdelL h drops) n, sizeT C.P t with
        | some (L, on), some size => match Nat.beq ds.length size with
          | true => hputK (hdelL h drops) n ⟨[], on, .big (splice L off ds)⟩ fun h => some ⟨.val (.pure undef), ⟨tm, h, nx, ora, rs⟩, Nat.min n (lowOf drops nx), ⟨(fact (off + size ≤ L.length ∧ ∀ u ∈ ds, cellD u), true) :: cs, []⟩⟩
          | false => none
        | _, _ => none
      | none => none
    | _ => none
def bigMake (C : Ctx) (t : TypeId) (len cap : AV) : St → Option Out
  | ⟨tm, h, nx, ora, rs⟩ => match len, cap, undA C.P t with
    | .pure (.int k l), .pure (.int k2 c), some (.slice e) => match infoA C.P e with
      | some i => match i.zero with
        | some z => match Nat.beq z.cells.size i.size with
          | true => withNat (nx + 1) fun nx1 => outB tm ((nx, ⟨[], none, .big (manyZeros z.cells.toList c.toNat)⟩) :: h) nx1 ora rs (.bsl nx 0 l.toNat c.toNat) nx (0 ≤ l ∧ l ≤ c ∧ i.bytes * c.toNat ≤ 140737488355328 ∧ c.toNat ≤ 140737488355328)
          | false => none
        | none => none
      | none => none
    | _, _, _ => none
/-- What is appended, laid open or not: its cells, how many elements, what is asked, and which blocks it needs no more. -/
def bigNew (h : AHeap) (size : Nat) (y : AV) : Option (List D × Nat × List (Bool × Bool) × List Nat) := match y with
  | .bsl b off len _ => match bigOf h b with
    | some (L, _) => some ((L.drop off).take (len * size), len, [(fact (off + len * size ≤ L.length), true)], [])
    | none => none
  | .bslx b off len _ => match bigOf h b with
    | some (L, _) => some ((L.drop off).take (len * size), len, [(fact (off + len * size ≤ L.length), true)], [])
    | none => none
  | .dsl n => match deepOf h n with
    | some (k, cs) => some (cs, k, [(fact (cs.length = k * size), true)], [])
    | none => none
  | y => match newCells h size y with
    | some (ys, n) => match dOfCells h ys with
      | some ⟨ds, drops, c⟩ => some (ds, n, c, drops)
      | none => none
    | none => none
def outA (tm : List AV) (h : AHeap) (nx : Nat) (ora : List Bool) (rs : Rs) (v : AV) (low : Nat) (p : Prop) (c : List (Bool × Bool)) : Option Out := some ⟨.val v, ⟨tm, h, nx, ora, rs⟩, low, ⟨(fact p, true) :: c, []⟩⟩
/-- Appended to what is not laid open. Nothing is appended to nil: nil stays; so at least one must be there. -/
def bigAppTo (size bytes : Nat) (x : AV) (vs : List D) (n : Nat) (c : List (Bool × Bool)) (drops : List Nat) : St → Option Out
  | ⟨tm, h, nx, ora, rs⟩ => match x with
    | .pure (.slice none l cp) => match l, cp with
      | 0, 0 => withNat (nx + 1) fun nx1 => outA tm ((nx, ⟨[], some size, .big vs⟩) :: hdelL h drops) nx1 ora rs (.bslx nx 0 n 0) (lowOf drops nx)
          (0 < n ∧ n * bytes ≤ 140737488355328 ∧ n ≤ 4611686018427387904) c
      | _, _ => none
    | .dsl m => match voidAt h m with
      | true => withNat (nx + 1) fun nx1 => outA tm ((nx, ⟨[], some size, .big vs⟩) :: hdelL h drops) nx1 ora rs (.bslx nx 0 n 0) (lowOf drops nx)
          (0 < n ∧ n * bytes ≤ 140737488355328 ∧ n ≤ 4611686018427387904) c
      | false => none
    | .bslx b off len sub => match off, sub, bigOf (hdelL h drops) b with
      | 0, 0, some (L, some k) => match Nat.beq k size with
        | true => withNat (nx + 1) fun nx1 => outA tm ((nx, ⟨[], some size, .big (L.take (len * size) ++ vs)⟩) :: hdel (hdelL h drops) b) nx1 ora rs (.bslx nx 0 (len + n) 0) (Nat.min b (lowOf drops nx))
            ((∀ u ∈ vs, cellD u) ∧ len * size ≤ L.length ∧ (len + n) * bytes ≤ 140737488355328 ∧ len + n ≤ 4611686018427387904) c
        | false => none
      | _, _, _ => none
    | .bsl b off len cap => match off, bigOf (hdelL h drops) b with
      | 0, some (L, none) => withNat (nx + 1) fun nx1 => outA tm ((nx, ⟨[], some size, .big (L.take (len * size) ++ vs)⟩) :: hdel (hdelL h drops) b) nx1 ora rs (.bslx nx 0 (len + n) 0) (Nat.min b (lowOf drops nx))
            ((∀ u ∈ vs, cellD u) ∧ len ≤ cap ∧ L.length = cap * size ∧ (len + n) * bytes ≤ 140737488355328 ∧ len + n ≤ 4611686018427387904) c
      | _, _ => none
    | .sl b off len cap => match off, hcells (hdelL h drops) b with
      | 0, some ⟨cs, none, _⟩ => match Nat.beq cs.length (cap * size), dOfCells (hdelL h drops) cs with
        | true, some ⟨L, [], []⟩ => withNat (nx + 1) fun nx1 => outA tm ((nx, ⟨[], some size, .big (L.take (len * size) ++ vs)⟩) :: hdel (hdelL h drops) b) nx1 ora rs (.bslx nx 0 (len + n) 0) (Nat.min b (lowOf drops nx))
            ((∀ u ∈ vs, cellD u) ∧ len ≤ cap ∧ (len + n) * bytes ≤ 140737488355328 ∧ len + n ≤ 4611686018427387904) c
        | _, _ => none
      | _, _ => none
    | _ => none
/-- What an operation has made is shut: a value in depth from now on. -/
def shutB (nx0 : Nat) : Option Out → Option Out
  | some ⟨.val v, ⟨tm, h, nx, ora, rs⟩, low, ⟨c, q⟩⟩ => match dOfCell h v with
    | some ⟨d, drops, cs⟩ => match drops.all (Nat.ble nx0) with
      | true => outD tm (hdelL h drops) nx ora rs d low (cs ++ c) q
      | false => none
    | none => none
  | _ => none
/-- Copied into what is made. -/
def bigCopy (C : Ctx) (c : Call) : St → Option Out
  | ⟨tm, h, nx, ora, rs⟩ => match c.args.toList, c.argTypes.toList with
    | [x, y], [t, _] => match undA C.P t, aeval tm x with
      | some (.slice e), .bsl n off len _ => match sizeT C.P e, bigOf h n with
        | some size, some (L, on) => match bigNew h size (aeval tm y) with
          | some (ds, m, cs, []) => hputK h n ⟨[], on, .big (splice L off ds)⟩ fun h => some ⟨.val (.pure (.int .i64 m)), ⟨tm, h, nx, ora, rs⟩, Nat.min n nx, ⟨(fact (m ≤ len ∧ off + m * size ≤ L.length ∧ ∀ u ∈ ds, cellD u), true) :: cs, []⟩⟩
          | _ => none
        | _, _ => none
      | _, _ => none
    | _, _ => none
/-- What is appended: elements, or so many zeros. -/
def bigPut (h : AHeap) (i : TypeInfo) (z : Value) (du : TypeDesc) (y : AV) : Option (List D × Nat × List (Bool × Bool) × List Nat) := match listLike du with
  | true => bigNew h i.size y
  | false => match du, y with
    | .int _, .pure (.int _ l) => some (manyZeros z.cells.toList l.toNat, l.toNat, [(fact (0 ≤ l), true)], [])
    | _, _ => none
def bigAppend (C : Ctx) (c : Call) (s : St) : Option Out := match c.args.toList, c.argTypes.toList with
  | [x, y], [t, u] => match undA C.P t, undA C.P u with
    | some (.slice e), some du => match infoA C.P e with
      | some i => match i.zero with
        | some z => match Nat.beq z.cells.size i.size, bigPut s.heap i z du (aeval s.tmps y) with
          | true, some (vs, n, p, drops) => bigAppTo i.size i.bytes (aeval s.tmps x) vs n p drops s
          | _, _ => none
        | none => none
      | none => none
    | _, _ => none
  | _, _ => none
/-- Empty, with no room. -/
def emptySl : AV → Bool
  | .sl _ _ 0 0 => true
  | _ => false
/-- Appended to what is empty and has no room: shut at once. -/
def emptyApp (bytes : Nat) (vs : List D) (n : Nat) (c : List (Bool × Bool)) (drops : List Nat) : St → Option Out
  | ⟨tm, h, nx, ora, rs⟩ => match drops with
    | [] => outD tm h nx ora rs (.list n vs) nx ((fact (n * bytes ≤ 140737488355328 ∧ n ≤ 4611686018427387904), true) :: c) []
    | _ => none
def shutApp (C : Ctx) (c : Call) (s : St) : Option Out := match c.args.toList, c.argTypes.toList with
  | [x, y], [t, u] => match emptySl (aeval s.tmps x) with
    | true => match undA C.P t, undA C.P u with
      | some (.slice e), some du => match listLike du, infoA C.P e with
        | true, some i => match i.zero with
          | some z => match Nat.beq z.cells.size i.size, bigNew s.heap i.size (aeval s.tmps y) with
            | true, some (vs, n, p, drops) => emptyApp i.bytes vs n p drops s
            | _, _ => none
          | none => none
        | _, _ => none
      | _, _ => none
    | false => shutB s.nxt (bigAppend C c s)
  | _, _ => none
/-- An empty literal, in depth at once. -/
def shutNil (C : Ctx) (t : TypeId) (len : Nat) (parts : List (Nat × Operand)) : St → Option Out
  | ⟨tm, h, nx, ora, rs⟩ => match len, parts, undA C.P t with
    | 0, [], some (.slice e) => match sizeT C.P e, zeroT C.P e with
      | some _, some _ => outD tm h nx ora rs (.list 0 []) nx [] []
      | _, _ => none
    | _, _, _ => none
/-- A literal that grows later: its contents are not laid open. -/
def growLit (C : Ctx) (t : TypeId) (o : Oper) (s : St) : Option Out := match undA C.P t with
  | some (.slice e) => match sizeT C.P e with
    | some size => match goPlain C o s with
      | some ⟨.val (.sl b off len cap), ⟨tm, h, nx, ora, rs⟩, low, ⟨c, q⟩⟩ => match off, hcells h b with
        | 0, some ⟨cs, none, _⟩ => match Nat.beq cs.length (cap * size), dOfCells h cs with
          | true, some ⟨L, [], []⟩ => withNat (nx + 1) fun nx1 => some ⟨.val (.bslx nx 0 len 0), ⟨tm, (nx, ⟨[], some size, .big L⟩) :: hdel h b, nx1, ora, rs⟩, Nat.min b low, ⟨c, q⟩⟩
          | _, _ => none
        | _, _ => none
      | _ => none
    | none => none
  | _ => none
/-- Is it a key of the kind? -/
def keyB : TypeDesc → Value → Bool
  | .bool, .bool _ => true
  | .int k, .int k' _ => k' == k
  | .string, .string _ => true
  | _, _ => false
/-- The place of a key in a map, and what stands there. -/
def mpFind (kind : TypeDesc) (k : Value) : List AV → Nat → Option (Option (Nat × AV))
  | [], _ => some none
  | .pure v :: x :: cs, i => match Instr.sameNow kind k v with
    | some true => some (some (i, x))
    | some false => mpFind kind k cs (i + 1)
    | none => none
  | _, _ => none
/-- Something else stands there. -/
def mpSet : List AV → Nat → AV → AV → List AV
  | _ :: _ :: cs, 0, k, v => k :: v :: cs
  | k' :: x :: cs, j + 1, k, v => k' :: x :: mpSet cs j k v
  | cs, _, _, _ => cs
def mpAt (h : AHeap) (n : Nat) : Option (List AV × List Nat × Nat) := match hget h n with
  | some ⟨cs, none, .mp born clock⟩ => some (cs, born, clock)
  | _ => none
def opMakeMap (r : Option Operand) : St → Option Out
  | ⟨tm, h, nx, ora, rs⟩ => match r with
    | none => withNat (nx + 1) fun nx1 => outB tm ((nx, ⟨[], none, .mp [] 0⟩) :: h) nx1 ora rs (.mp nx) nx True
    | some _ => none
/-- What stands at a key, or the zero value. -/
def opLookup (C : Ctx) (t : TypeId) (x k : AV) (ok : Bool) : St → Option Out
  | ⟨tm, h, nx, ora, rs⟩ => match x, k, undA C.P t with
    | .mp n, .pure k, some (.map kt et) => match undA C.P kt, mpAt h n, zeroT C.P et with
      | some kd, some (cs, _, _), some z => match keyB kd k, mpFind kd k cs 0 with
        | true, some (some (_, v)) => match v.ok nx with
          | true => outB tm h nx ora rs (if ok then .tuple [v, .pure (.bool true)] else v) nx True
          | false => none
        | true, some none => outB tm h nx ora rs (if ok then .tuple [.pure z, .pure (.bool false)] else .pure z) nx True
        | _, _ => none
      | _, _, _ => none
    | _, _, _ => none
/-- A key and its value are laid into a map. -/
def opUpdate (C : Ctx) (t : TypeId) (m k v : AV) : St → Option Out
  | ⟨tm, h, nx, ora, rs⟩ => match m, k, undA C.P t with
    | .mp n, .pure kv, some (.map kt _) => match undA C.P kt, mpAt h n, v.ok nx with
      | some kd, some (cs, born, clock), true => match AV.okL nx cs, keyB kd kv, mpFind kd kv cs 0 with
        | true, true, some (some (j, _)) => hputK h n ⟨mpSet cs j (.pure kv) v, none, .mp born clock⟩ fun h => some ⟨.val (.pure undef), ⟨tm, h, nx, ora, rs⟩, Nat.min n nx, ⟨[(fact True, true)], []⟩⟩
        | true, true, some none => hputK h n ⟨cs ++ [.pure kv, v], none, .mp (born ++ [clock]) (clock + 1)⟩ fun h => some ⟨.val (.pure undef), ⟨tm, h, nx, ora, rs⟩, Nat.min n nx, ⟨[(fact True, true)], []⟩⟩
        | _, _, _ => none
      | _, _, _ => none
    | _, _, _ => none
def goBig (C : Ctx) (f : FuncId) (o : Oper) (s : St) : Option (Option Out) := match o.op with
  | .buildSlice t len parts => match o.dst with
    | some d => match C.sym f (d + 2000000) with
      | true => match len with
        | 0 => some (shutNil C t 0 parts.toList s)
        | _ + 1 => some (growLit C t o s)
      | false => none
    | none => none
  | .indexAddr t x ix => match aeval s.tmps x with
    | .bsl a b c d => some (bigIndex C t (.bsl a b c d) (aeval s.tmps ix) s)
    | .bslx a b c d => some (bigIndex C t (.bslx a b c d) (aeval s.tmps ix) s)
    | .dsl a => some (bigIndex C t (.dsl a) (aeval s.tmps ix) s)
    | .dptr a b => some (bigIndex C t (.dptr a b) (aeval s.tmps ix) s)
    | _ => none
  | .load t a => match aeval s.tmps a with
    | .bptr n off => some (bigLoad C t (.bptr n off) s)
    | .dptr n off => some (bigLoad C t (.dptr n off) s)
    | _ => none
  | .fieldAddr t x i => match aeval s.tmps x with
    | .dptr n off => some (deepField C t (.dptr n off) i s)
    | _ => none
  | .slice t x lo hi mx => match aeval s.tmps x with
    | .dsl n => match mx with
      | none => some (deepSlice C t n lo hi none s)
      | some m => some (voidSlice C t n lo hi (some m) s)
    | .bsl n off len cap => match mx with
      | none => some (bigSlice C t n off len cap lo hi s)
      | some _ => none
    | v => match marked C f o, strOf v with
      | true, some b => some (strSlice C t b lo hi mx s)
      | _, _ => none
  | .index t x ix => match marked C f o, strOf (aeval s.tmps x) with
    | true, some b => some (strIndex C t b (aeval s.tmps ix) s)
    | _, _ => none
  | .store t a x => match aeval s.tmps a with
    | .bptr n off => some (bigStore C t (.bptr n off) (aeval s.tmps x) s)
    | _ => none
  | .makeSlice t l c => match o.dst with
    | some d => match C.sym f (d + 1000000) with
      | true => some (bigMake C t (aeval s.tmps l) (aeval s.tmps c) s)
      | false => none
    | none => none
  | .call c => match c.callee with
    | .builtin .append => match o.dst with
      | some d => match C.sym f (d + 1000000) with
        | true => match C.sym f (d + 2000000) with
          | true => some (shutApp C c s)
          | false => some (bigAppend C c s)
        | false => none
      | none => none
    | .builtin .len => deepLen C c s
    | .builtin .copy => some (bigCopy C c s)
    | _ => none
  | .makeMap _ r => some (opMakeMap r s)
  | .lookup t x k ok => match aeval s.tmps x with
    | .mp n => some (opLookup C t (.mp n) (aeval s.tmps k) ok s)
    | _ => none
  | .mapUpdate t m k v => match aeval s.tmps m with
    | .mp n => some (opUpdate C t (.mp n) (aeval s.tmps k) (aeval s.tmps v) s)
    | _ => none
  | .binOp op t x y _ => match op with
    | .eql => match aeval s.tmps x with
      | .dsl n => match aeval s.tmps y, undA C.P t with
        | .pure (.slice none _ _), some (.slice _) => some (deepNil n s)
        | _, _ => none
      | _ => none
    | _ => none
  | _ => none
def goSmall (C : Ctx) (R : Rec) (f : FuncId) (o : Oper) (s : St) : Option Out := match o.op with
  | .pick c x y => goPick C f o c x y s
  | .call c => match c.callee with
    | .value _ => match yieldOf s.tmps c with
      | some (l, args) => goYield R l args s
      | none => goCall R c s
    | _ => goPlain C o s
  | .binOp op _ _ _ _ => match op with
    | .quo => goDiv C o s
    | .rem => goDiv C o s
    | _ => goPlain C o s
  | _ => goPlain C o s
/-- The blocks for deferred calls, shut. -/
def shutMarks : List Nat → AHeap → Option AHeap
  | [], h => some h
  | d :: ds, h => match hget h d with
    | some ⟨_, _, .dfr⟩ => shutMarks ds (hdel h d)
    | _ => none
def leaveWith (C : Ctx) (rv : List ResultVar) (vs : List AV) (nx : Nat) (fr : AFrame) (tm2 : List AV) (h2 : AHeap) (nx2 : Nat) (ora2 : List Bool) (vals : List D) (l2 : Nat) (g2 : Log) : Option Out :=
  match aresults C tm2 h2 rv with
  | some us => match vs.all isPure && isPure (resultOf us) with
      | true => some ⟨.val (resultOf us), ⟨[], hbelow h2 nx, nx2, ora2, ⟨vals, fr⟩⟩, l2, g2⟩
      | false => match (resultOf us).ok nx2 with
        | true => some ⟨.val (resultOf us), ⟨[], h2, nx2, ora2, ⟨vals, fr⟩⟩, l2, g2⟩
        | false => none
  | none => none
def goOp (C : Ctx) (R : Rec) (f : FuncId) (o : Oper) (s : St) : Option Out := match goBig C f o s with
  | some r => r
  | none => goSmall C R f o s
def leave (C : Ctx) (rv : List ResultVar) (vs : List AV) (nx : Nat) (fr : AFrame) : Option Out → Option Out
  | some ⟨x, ⟨tm2, h2, nx2, ora2, rs2⟩, l2, g2⟩ => match isOff x, rs2.fr.marks with
    | true, [] => leaveWith C rv vs nx fr tm2 h2 nx2 ora2 rs2.vals (Nat.min l2 (lowOf [] nx2)) g2
    | true, m :: ms => match shutMarks (m :: ms) h2 with
      | some h3 => leaveWith C rv vs nx fr tm2 h3 nx2 ora2 rs2.vals (Nat.min l2 (lowOf (m :: ms) nx2)) g2
      | none => none
    | _, _ => none
  | none => none
def contract (g : FuncId) (vs : List AV) : St → Option Out
  | ⟨_, h, nx, ora, ⟨rs, fr⟩⟩ => match dOf1L h vs, rs with
    | some ⟨ds, drops, c⟩, r :: res => match flatD r with
      | true => outD [] h nx ora ⟨res, fr⟩ r nx c [.call g ds r]
      | false => outD [] (hdelL h drops) nx ora ⟨res, fr⟩ r (lowOf drops nx) c [.call g ds r]
    | _, _ => none
def goEnter (C : Ctx) (R : Rec) (g : FuncId) (vs : List AV) : St → Option Out
  | ⟨_, h, nx, ora, rs⟩ => match C.fine g, listGet C.P.funcs.toList g with
    | true, some fn => match fn.body, AV.okL nx vs with
      | some c, true => spine (vs ++ List.replicate (fn.ntmps - vs.length) (.pure undef)) fun tm1 => leave C fn.results.toList vs nx rs.fr (R (.code g c) ⟨tm1, h, nx, ora, ⟨rs.vals, noFrame⟩⟩)
      | _, _ => none
    | _, _ => none
/-- Appends that come in whatever order, each to a block of its own. -/
def eatSite (C : Ctx) (f : FuncId) (o : Oper) : Bool := match isApp o.op, o.dst with
  | true, some d => C.sym f (d + 3000000)
  | _, _ => false
def eatCount (C : Ctx) (f : FuncId) : List Oper → Nat
  | [] => 0
  | o :: os => match eatSite C f o with
    | true => eatCount C f os + 1
    | false => eatCount C f os
/-- The names of the blocks that grow. -/
def growNames : AHeap → List Nat
  | [] => []
  | (n, b) :: h => match b.opn, b.kind with
    | some _, .cells => n :: growNames h
    | some _, .big _ => n :: growNames h
    | _, _ => growNames h
def hidOf (e : Option Nat) (ns : List Nat) : List Nat := match e with
  | none => ns
  | some c => ns.filter fun n => !(Nat.beq n c)
def eatOf (C : Ctx) (f : FuncId) (o : Oper) (tm : List AV) : Option (Call × Nat) := match eatSite C f o with
  | true => match o.op with
    | .call c => match c.args.toList with
      | x :: _ => match aeval tm x with
        | .bslx n _ _ _ => some (c, n)
        | .bsl n _ _ _ => some (c, n)
        | _ => none
      | [] => none
    | _ => none
  | false => none
def isBigAt (h : AHeap) (n : Nat) : Bool := match hget h n with
  | some b => match b.kind with
    | .big _ => true
    | _ => false
  | none => false
/-- An append that needs nothing dropped. -/
def eatApp (C : Ctx) (c : Call) (s : St) : Option Out := match c.args.toList, c.argTypes.toList with
  | [_, y], [t, u] => match undA C.P t, undA C.P u with
    | some (.slice e), some du => match infoA C.P e with
      | some i => match i.zero with
        | some z => match bigPut s.heap i z du (aeval s.tmps y) with
          | some (_, _, _, []) => bigAppend C c s
          | _ => none
        | none => none
      | none => none
    | _, _ => none
  | _, _ => none
/-- Is there no such block in any of them? -/
def noneHas (hs : List AHeap) (c : Nat) : Bool := hs.all fun h => match hget h c with
  | some _ => false
  | none => true
/-- Cells that are named, in one of them. -/
def someCells (hs : List AHeap) (c : Nat) : List Nat → Bool
  | [] => false
  | j :: js => match hget (hs.getD j []) c with
    | some b => (match b.kind with
      | .cells => true
      | .big _ => true
      | _ => false) || someCells hs c js
    | none => someCells hs c js
/-- A store into a block that the region has made: the block bears a new name from now on. -/
def eatStore (C : Ctx) (o : Oper) (s : St) : Option (Nat × ABlock × AHeap) := match o.op, o.dst with
  | .store t a x, none => match aeval s.tmps a with
    | .ptr c off => match astore C s.heap s.nxt t (.ptr c off) (aeval s.tmps x) with
      | some (h1, _) => match hget h1 c with
        | some ⟨cs, none, .cells⟩ => some (c, ⟨cs, none, .cells⟩, h1)
        | _ => none
      | none => none
    | _ => none
  | _, _ => none
/-- The block into which a store goes. -/
def storeTo (tm : List AV) (o : Oper) : Option Nat := match o.op with
  | .store _ a _ => match aeval tm a with
    | .ptr c _ => some c
    | _ => none
  | _ => none
def renName : List (Nat × Nat) → Nat → Nat
  | [], n => n
  | (c, d) :: rs, n => match Nat.beq c n with
    | true => d
    | false => renName rs n
def renA (rs : List (Nat × Nat)) : AV → AV
  | .ptr n o => .ptr (renName rs n) o
  | v => v
def renT (rs : List (Nat × Nat)) (tm : List AV) : List AV := match rs with
  | [] => tm
  | r :: rs => tm.map (renA (r :: rs))
/-- A region that draws its order, in which several operations eat a block each: no operation sees what another one eats. -/
def drawE (C : Ctx) (R : Rec) (f : FuncId) (ops : Array Oper) (base : Nat) (hid : List Nat) : List Oper → List AHeap → List AHeap → List AHeap → List Nat → List (Nat × Nat) → St → Option Out
  | [], _, acc, _, eaten, rens, ⟨tm, h, nx, ora, rs⟩ => match AV.okL nx (renT rens tm) with
    | true => stay .normal ⟨renT rens tm, hdelL (acc.flatten ++ h) eaten, nx, ora, rs⟩
    | false => none
  | o :: todo, seen, acc, mines, eaten, rens, ⟨tm, h, nx, ora, rs⟩ => match bare o && (eaten.all fun c => noneHas [seenBy seen (depsOf o)] c) with
    | true => match isStore o.op with
      | true => match storeTo tm o with
        | some c0 => match eatStore C o ⟨tm, seenBy seen (depsOf o) ++ hdelL h (hidOf (some c0) hid), nx, ora, rs⟩ with
          | some (c, b, h1) => match (Nat.blt c base && hid.any (Nat.beq c) && cellsAt h c || Nat.ble base c && Nat.blt c nx && someCells acc c ((before ops.toList []).getD seen.length [])) && Nat.beq c c0 && noneHas mines c && !(eaten.any (Nat.beq c)) && heapWithin (mayName base nx (seenBy seen (depsOf o))) (hfrom ((nx, b) :: hdel h1 c) nx) with
            | true => behind c [] [] (drawE C R f ops base hid todo (seen ++ [hfrom ((nx, b) :: hdel h1 c) nx ++ hdel (seenBy seen (depsOf o)) c]) (acc ++ [hfrom ((nx, b) :: hdel h1 c) nx]) (mines ++ [seenBy seen (depsOf o)]) (c :: eaten) ((c, nx) :: rens) ⟨tm, h, nx + 1, ora, rs⟩)
            | false => none
          | none => none
        | none => none
      | false => match eatOf C f o tm with
        | some (c, b) => match (Nat.blt b base && hid.any (Nat.beq b) && isBigAt h b || Nat.ble base b && Nat.blt b nx && someCells acc b ((before ops.toList []).getD seen.length [])) && !(eaten.any (Nat.beq b)) && noneHas mines b with
          | true => match eatApp C c ⟨tm, seenBy seen (depsOf o) ++ hdelL h (hidOf (some b) hid), nx, ora, rs⟩ with
            | some ⟨.val v, ⟨_, h1, nx1, ora2, rs1⟩, _, ⟨c1, k1⟩⟩ => match v.within (mayName base nx (seenBy seen (depsOf o))) && heapWithin (mayName base nx (seenBy seen (depsOf o))) (hfrom h1 nx) with
              | true => setTK tm o.dst v fun tm1 => behind b c1 k1 (drawE C R f ops base hid todo (seen ++ [hfrom h1 nx ++ hdel (seenBy seen (depsOf o)) b]) (acc ++ [hfrom h1 nx]) (mines ++ [seenBy seen (depsOf o)]) (b :: eaten) rens ⟨tm1, h, nx1, ora2, rs1⟩)
              | false => none
            | _ => none
          | false => none
        | none => match R (.op f o) ⟨tm, seenBy seen (depsOf o) ++ hdelL h hid, nx, ora, rs⟩ with
          | some ⟨.val v, ⟨_, h1, nx1, ora2, rs1⟩, l1, ⟨c1, k1⟩⟩ => match Nat.ble nx l1 && v.within (mayName base nx (seenBy seen (depsOf o))) && heapWithin (mayName base nx (seenBy seen (depsOf o))) (hfrom h1 nx) with
            | true => setTK tm o.dst v fun tm1 => behind nx c1 k1 (drawE C R f ops base hid todo (seen ++ [hfrom h1 nx ++ seenBy seen (depsOf o)]) (acc ++ [hfrom h1 nx]) (mines ++ [seenBy seen (depsOf o)]) eaten rens ⟨tm1, h, nx1, ora2, rs1⟩)
            | false => none
          | _ => none
    | false => none
/-- Is a block made that is marked: are there stores into what the region makes, for which others need not wait? -/
def lateAlloc (C : Ctx) (f : FuncId) : List Oper → Bool
  | [] => false
  | o :: os => (match o.op, o.dst with
    | .alloc _, some d => C.sym f (d + 3000000)
    | .load _ _, some d => C.sym f (d + 3000000)
    | _, _ => false) || lateAlloc C f os
/-- Are there several operations that eat? -/
def eatsB (C : Ctx) (f : FuncId) (ops : Array Oper) : Bool := match eatCount C f ops.toList with
  | 0 => lateAlloc C f ops.toList
  | 1 => lateAlloc C f ops.toList
  | _ => true
def eatTail (ops : Array Oper) : Nat := tailFrom (before ops.toList []) ops.size
/-- A region in which several appends eat. -/
def eatCode (C : Ctx) (f : FuncId) : Code → Option (Array Oper)
  | .region _ ops true => match eatsB C f ops with
    | true => some ops
    | false => none
  | _ => none
/-- What an operand of the region moves. -/
def movedOf : List Oper → Operand → Operand
  | [], x => x
  | o :: os, x => match o.op, o.dst, x with
    | .move y, some d, .tmp t => match Nat.beq d t with
      | true => y
      | false => movedOf os x
    | _, _, _ => movedOf os x
/-- The growable blocks that are eaten, where all can be told before the region. -/
def eatBases (C : Ctx) (f : FuncId) (all : List Oper) (tm : List AV) : List Oper → List Nat → Option (List Nat)
  | [], acc => some acc
  | o :: os, acc => match eatSite C f o with
    | true => match o.op with
      | .call c => match c.args.toList with
        | x :: _ => match aeval tm (movedOf all x) with
          | .bslx n _ _ _ => eatBases C f all tm os (n :: acc)
          | _ => match x with
            | .tmp t => match all.any fun o => match o.op, o.dst with
                | .makeSlice _ _ _, some d => Nat.beq d t
                | _, _ => false with
              | true => eatBases C f all tm os acc
              | false => none
            | _ => none
        | [] => none
      | _ => none
    | false => eatBases C f all tm os acc
/-- The blocks that are there before the region and are stored into. -/
def storeNames (all : List Oper) (tm : List AV) : List Oper → List Nat
  | [] => []
  | o :: os => match o.op with
    | .store _ (.tmp a) _ => match all.any fun q => match q.dst with
        | some d => Nat.beq d a
        | none => false with
      | true => storeNames all tm os
      | false => match storeTo tm o with
        | some n => n :: storeNames all tm os
        | none => storeNames all tm os
    | _ => storeNames all tm os
def eatHid (C : Ctx) (f : FuncId) (ops : Array Oper) (tm : List AV) (h : AHeap) : List Nat := storeNames ops.toList tm (ops.toList.take (eatTail ops)) ++ match eatBases C f ops.toList tm ops.toList [] with
  | some ns => ns
  | none => growNames h
def goCodeE (C : Ctx) (R : Rec) (f : FuncId) (c : Code) (s : St) : Option Out := match eatCode C f c with
  | some ops => goTail R f ops (eatTail ops) (drawE C R f ops s.nxt (eatHid C f ops s.tmps s.heap) (ops.toList.take (eatTail ops)) [] [] [] [] [] s)
  | none => goCode C R f c s
def step (C : Ctx) (R : Rec) (j : Job) (s : St) : Option Out := match j with
  | .code f c => goCodeE C R f c s
  | .loop f c => goLoop R f c (R (.code f c) s)
  | .ops f ops todo => goOps C R f ops todo s
  | .draw f ops todo base seen acc => goDraw C R f ops todo base seen acc s
  | .op f o => goOp C R f o s
  | .enter g vs => match C.con g with
    | true => contract g vs s
    | false => goEnter C R g vs s
def run (C : Ctx) : Nat → Job → St → Option Out
  | 0, _, _ => none
  | n + 1, j, s => step C (run C n) j s
end
end Go.Ev
/- Running the program's functions on values that are known in part: plain facts. -/
namespace Go.Ev
open Go.RowKit
theorem denL_map (ρ : Env) : ∀ xs : List AV, AV.denL ρ xs = xs.map (AV.den ρ)
  | [] => by simp [AV.denL]
  | x :: xs => by simp [AV.denL, denL_map ρ xs]
theorem denL_length (ρ : Env) (xs : List AV) : (AV.denL ρ xs).length = xs.length := by simp [denL_map]
theorem denL_append (ρ : Env) (xs ys : List AV) : AV.denL ρ (xs ++ ys) = AV.denL ρ xs ++ AV.denL ρ ys := by simp [denL_map]
theorem withinL_iff (p : Nat → Bool) : ∀ xs : List AV, AV.withinL p xs = true ↔ ∀ x ∈ xs, x.within p = true
  | [] => by simp [AV.withinL]
  | x :: xs => by simp [AV.withinL, withinL_iff p xs]
theorem okL_iff (m : Nat) (xs : List AV) : AV.okL m xs = true ↔ ∀ x ∈ xs, x.ok m = true := withinL_iff _ xs
mutual
theorem den_within {ρ ρ' : Env} {p : Nat → Bool} (h : ∀ n, p n = true → ρ'.σ n = ρ.σ n ∧ ρ'.kk n = ρ.kk n) : ∀ x : AV, x.within p = true → x.den ρ' = x.den ρ
  | .pure v, _ => by simp [AV.den]
  | .ptr n o, k => by simp [AV.den, h n (by simpa [AV.within] using k)]
  | .sl n o l c, k => by simp [AV.den, h n (by simpa [AV.within] using k)]
  | .slx n o l c, k => by simp [AV.den, h n (by simpa [AV.within] using k)]
  | .yld n, k => by simp [AV.den, h n (by simpa [AV.within] using k)]
  | .mp n, k => by simp [AV.den, h n (by simpa [AV.within] using k)]
  | .bsl n o l c, k => by simp [AV.den, h n (by simpa [AV.within] using k)]
  | .bslx n o l c, k => by simp [AV.den, h n (by simpa [AV.within] using k)]
  | .bptr n o, k => by simp [AV.den, h n (by simpa [AV.within] using k)]
  | .dsl n, k => by simp [AV.den, h n (by simpa [AV.within] using k)]
  | .dptr n o, k => by simp [AV.den, h n (by simpa [AV.within] using k)]
  | .any n, k => by simp [AV.den, h n (by simpa [AV.within] using k)]
  | .agg xs, k => by
    have k' : AV.withinL p xs = true := by simpa [AV.within] using k
    simp [AV.den, denL_within h xs k']
  | .tuple xs, k => by
    have k' : AV.withinL p xs = true := by simpa [AV.within] using k
    simp [AV.den, denL_within h xs k']
  | .func f xs ys, k => by
    have k' : AV.withinL p xs = true ∧ AV.withinL p ys = true := by simpa [AV.within] using k
    simp [AV.den, denL_within h xs k'.1, denL_within h ys k'.2]
theorem denL_within {ρ ρ' : Env} {p : Nat → Bool} (h : ∀ n, p n = true → ρ'.σ n = ρ.σ n ∧ ρ'.kk n = ρ.kk n) : ∀ xs : List AV, AV.withinL p xs = true → AV.denL ρ' xs = AV.denL ρ xs
  | [], _ => by simp [AV.denL]
  | x :: xs, k => by
    have k' : x.within p = true ∧ AV.withinL p xs = true := by simpa [AV.withinL] using k
    simp [AV.denL, den_within h x k'.1, denL_within h xs k'.2]
end
mutual
/-- Only the names' blocks and values tell what is meant. -/
theorem den_env {ρ ρ' : Env} (h1 : ρ'.σ = ρ.σ) (h2 : ρ'.kk = ρ.kk) : ∀ x : AV, x.den ρ' = x.den ρ
  | .pure v => by simp [AV.den]
  | .ptr n o => by simp [AV.den, h1]
  | .sl n o l c => by simp [AV.den, h1]
  | .slx n o l c => by simp [AV.den, h1, h2]
  | .yld n => by simp [AV.den, h1]
  | .mp n => by simp [AV.den, h1]
  | .bsl n o l c => by simp [AV.den, h1]
  | .bslx n o l c => by simp [AV.den, h1, h2]
  | .bptr n o => by simp [AV.den, h1]
  | .dsl n => by simp [AV.den, h2]
  | .dptr n o => by simp [AV.den, h2]
  | .any n => by simp [AV.den, h2]
  | .agg xs => by simp [AV.den, denL_env h1 h2 xs]
  | .tuple xs => by simp [AV.den, denL_env h1 h2 xs]
  | .func f xs ys => by simp [AV.den, denL_env h1 h2 xs, denL_env h1 h2 ys]
theorem denL_env {ρ ρ' : Env} (h1 : ρ'.σ = ρ.σ) (h2 : ρ'.kk = ρ.kk) : ∀ xs : List AV, AV.denL ρ' xs = AV.denL ρ xs
  | [] => by simp [AV.denL]
  | x :: xs => by simp [AV.denL, den_env h1 h2 x, denL_env h1 h2 xs]
end
theorem den_agree {ρ ρ' : Env} {m : Nat} (h : ∀ n, n < m → ρ'.σ n = ρ.σ n ∧ ρ'.kk n = ρ.kk n) (x : AV) (k : x.ok m = true) : x.den ρ' = x.den ρ :=
  den_within (fun n hn => h n (by simpa [Nat.blt_eq] using hn)) x k
theorem denL_agree {ρ ρ' : Env} {m : Nat} (h : ∀ n, n < m → ρ'.σ n = ρ.σ n ∧ ρ'.kk n = ρ.kk n) (xs : List AV) (k : AV.okL m xs = true) : AV.denL ρ' xs = AV.denL ρ xs :=
  denL_within (fun n hn => h n (by simpa [Nat.blt_eq] using hn)) xs k
mutual
theorem within_mono {p q : Nat → Bool} (h : ∀ n, p n = true → q n = true) : ∀ x : AV, x.within p = true → x.within q = true
  | .pure v, _ => by simp [AV.within]
  | .ptr n o, k => by simpa [AV.within] using h n (by simpa [AV.within] using k)
  | .sl n o l c, k => by simpa [AV.within] using h n (by simpa [AV.within] using k)
  | .slx n o l c, k => by simpa [AV.within] using h n (by simpa [AV.within] using k)
  | .yld n, k => by simpa [AV.within] using h n (by simpa [AV.within] using k)
  | .mp n, k => by simpa [AV.within] using h n (by simpa [AV.within] using k)
  | .bsl n o l c, k => by simpa [AV.within] using h n (by simpa [AV.within] using k)
  | .bslx n o l c, k => by simpa [AV.within] using h n (by simpa [AV.within] using k)
  | .bptr n o, k => by simpa [AV.within] using h n (by simpa [AV.within] using k)
  | .dsl n, k => by simpa [AV.within] using h n (by simpa [AV.within] using k)
  | .dptr n o, k => by simpa [AV.within] using h n (by simpa [AV.within] using k)
  | .any n, k => by simpa [AV.within] using h n (by simpa [AV.within] using k)
  | .agg xs, k => by
    have k' : AV.withinL p xs = true := by simpa [AV.within] using k
    simpa [AV.within] using withinL_mono h xs k'
  | .tuple xs, k => by
    have k' : AV.withinL p xs = true := by simpa [AV.within] using k
    simpa [AV.within] using withinL_mono h xs k'
  | .func f xs ys, k => by
    have k' : AV.withinL p xs = true ∧ AV.withinL p ys = true := by simpa [AV.within] using k
    simp [AV.within, withinL_mono h xs k'.1, withinL_mono h ys k'.2]
theorem withinL_mono {p q : Nat → Bool} (h : ∀ n, p n = true → q n = true) : ∀ xs : List AV, AV.withinL p xs = true → AV.withinL q xs = true
  | [], _ => by simp [AV.withinL]
  | x :: xs, k => by
    have k' : x.within p = true ∧ AV.withinL p xs = true := by simpa [AV.withinL] using k
    simp [AV.withinL, within_mono h x k'.1, withinL_mono h xs k'.2]
end
mutual
theorem within_and {p q : Nat → Bool} : ∀ x : AV, x.within p = true → x.within q = true → x.within (fun n => p n && q n) = true
  | .pure v, _, _ => by simp [AV.within]
  | .ptr n o, k, l => by simp_all [AV.within]
  | .sl n o l c, k, l' => by simp_all [AV.within]
  | .slx n o l c, k, l' => by simp_all [AV.within]
  | .yld n, k, l' => by simp_all [AV.within]
  | .mp n, k, l' => by simp_all [AV.within]
  | .bsl n o l c, k, l' => by simp_all [AV.within]
  | .bslx n o l c, k, l' => by simp_all [AV.within]
  | .bptr n o, k, l' => by simp_all [AV.within]
  | .dsl n, k, l' => by simp_all [AV.within]
  | .dptr n o, k, l' => by simp_all [AV.within]
  | .any n, k, l' => by simp_all [AV.within]
  | .agg xs, k, l => by
    have k' : AV.withinL p xs = true := by simpa [AV.within] using k
    have l' : AV.withinL q xs = true := by simpa [AV.within] using l
    simpa [AV.within] using withinL_and xs k' l'
  | .tuple xs, k, l => by
    have k' : AV.withinL p xs = true := by simpa [AV.within] using k
    have l' : AV.withinL q xs = true := by simpa [AV.within] using l
    simpa [AV.within] using withinL_and xs k' l'
  | .func f xs ys, k, l => by
    have k' : AV.withinL p xs = true ∧ AV.withinL p ys = true := by simpa [AV.within] using k
    have l' : AV.withinL q xs = true ∧ AV.withinL q ys = true := by simpa [AV.within] using l
    simp [AV.within, withinL_and xs k'.1 l'.1, withinL_and ys k'.2 l'.2]
theorem withinL_and {p q : Nat → Bool} : ∀ xs : List AV, AV.withinL p xs = true → AV.withinL q xs = true → AV.withinL (fun n => p n && q n) xs = true
  | [], _, _ => by simp [AV.withinL]
  | x :: xs, k, l => by
    have k' : x.within p = true ∧ AV.withinL p xs = true := by simpa [AV.withinL] using k
    have l' : x.within q = true ∧ AV.withinL q xs = true := by simpa [AV.withinL] using l
    simp only [AV.withinL, Bool.and_eq_true]
    exact ⟨within_and x k'.1 l'.1, withinL_and xs k'.2 l'.2⟩
end
theorem ok_mono {m m' : Nat} (h : m ≤ m') (x : AV) (k : x.ok m = true) : x.ok m' = true :=
  within_mono (fun n hn => by have : n < m := by simpa [Nat.blt_eq] using hn
                              simp [Nat.blt_eq]; omega) x k
theorem okL_mono {m m' : Nat} (h : m ≤ m') (xs : List AV) (k : AV.okL m xs = true) : AV.okL m' xs = true :=
  withinL_mono (fun n hn => by have : n < m := by simpa [Nat.blt_eq] using hn
                               simp [Nat.blt_eq]; omega) xs k
theorem pures_den (ρ : Env) : ∀ {xs : List AV} {vs : List Value}, pures xs = some vs → AV.denL ρ xs = vs
  | [], vs, h => by simp [pures] at h; subst h; rfl
  | x :: xs, vs, h => by
    cases x <;> simp [pures] at h
    obtain ⟨us, hu, rfl⟩ := h
    simp [AV.denL, AV.den, pures_den ρ hu]
theorem mkAgg_den (ρ : Env) (xs : List AV) : (mkAgg xs).den ρ = .agg (AV.denL ρ xs).toArray := by
  unfold mkAgg
  split
  · rename_i vs h; simp [AV.den, pures_den ρ h]
  · simp [AV.den]
theorem mkTuple_den (ρ : Env) (xs : List AV) : (mkTuple xs).den ρ = .tuple (AV.denL ρ xs).toArray := by
  unfold mkTuple
  split
  · rename_i vs h; simp [AV.den, pures_den ρ h]
  · simp [AV.den]
theorem mkFunc_den (ρ : Env) (f : Fn) (xs ys : List AV) : (mkFunc f xs ys).den ρ = .func f (AV.denL ρ xs).toArray (AV.denL ρ ys).toArray := by
  unfold mkFunc
  split
  · rename_i us vs h k; simp [AV.den, pures_den ρ h, pures_den ρ k]
  · simp [AV.den]
theorem denL_pure (ρ : Env) (vs : List Value) : AV.denL ρ (vs.map .pure) = vs := by
  induction vs with
  | nil => rfl
  | cons v vs ih => simp [AV.denL, AV.den, ih]
theorem cellsOf_den (ρ : Env) (x : AV) (hs : solid x = true) : AV.denL ρ (cellsOf x) = (x.den ρ).cells.toList := by
  cases x with
  | any n => cases hs
  | dsl n => simp [cellsOf, AV.den, AV.denL, Value.cells, sliceOf]
  | dptr n o =>
    simp only [cellsOf, AV.den, AV.denL, behindOf]
    split <;> rfl
  | _ => simp [cellsOf, AV.den, AV.denL, Value.cells, denL_pure]
theorem cellsOf_size (ρ : Env) (x : AV) (hs : solid x = true) : (x.den ρ).cells.size = (cellsOf x).length := by
  rw [← Array.length_toList, ← cellsOf_den ρ x hs, denL_length]
theorem still_run {P : Program} {α : Type} {s : Sem α} {a : α} (h : still P s = some a) (w : World) : s.run P w = .ok a w := by
  induction s with
  | pure b => simp [still] at h; subst h; rfl
  | program k ih => exact ih _ (by simpa [still] using h)
  | mark m k ih => exact ih (by simpa [still] using h)
  | _ => simp [still] at h
theorem isPure_den {ρ : Env} {x : AV} (h : isPure x = true) : ∃ v, x = .pure v ∧ x.den ρ = v := by
  cases x <;> simp [isPure] at h
  exact ⟨_, rfl, by simp [AV.den]⟩
theorem listGet_eq {α : Type} : ∀ (xs : List α) (n : Nat), listGet xs n = xs[n]?
  | [], _ => by simp [listGet]
  | x :: _, 0 => rfl
  | x :: xs, n + 1 => by
    have h : listGet (x :: xs) (n + 1) = listGet xs n := rfl
    rw [h, listGet_eq xs n]; simp
theorem withNat_eq {α : Type} (n : Nat) (k : Nat → α) : withNat n k = k n := by cases n <;> rfl
theorem forceVal1_eq {α : Type} (v : Value) (k : Value → α) : forceVal1 v k = k v := by cases v <;> rfl
theorem forceVs_eq {α : Type} : ∀ (xs : List Value) (k : List Value → α), forceVs xs k = k xs
  | [], k => rfl
  | x :: xs, k => by
    show forceVal1 x (fun y => forceVs xs fun ys => k (y :: ys)) = _
    rw [forceVal1_eq, forceVs_eq]
theorem forceVal_eq {α : Type} (v : Value) (k : Value → α) : forceVal v k = k v := by
  cases v <;> first | rfl | exact forceVs_eq _ _
theorem forceV_eq {α : Type} (x : AV) (k : AV → α) : forceV x k = k x := by
  cases x <;> simp [forceV, withNat_eq, forceVal_eq]
theorem spine_eq {α : Type} : ∀ (xs : List AV) (k : List AV → Option α), spine xs k = k xs
  | [], k => rfl
  | x :: xs, k => spine_eq xs fun ys => k (x :: ys)
theorem setK_eq {α : Type} : ∀ (xs : List AV) (n : Nat) (v : AV) (k : List AV → Option α), setK xs n v k = k (xs.set n v)
  | [], _, _, k => rfl
  | x :: xs, 0, v, k => rfl
  | x :: xs, n + 1, v, k => setK_eq xs n v fun ys => k (x :: ys)
theorem setTK_eq {α : Type} (tm : List AV) (dst : Option Tmp) (v : AV) (k : List AV → Option α) : setTK tm dst v k = k (setT tm dst v) := by
  cases dst
  · rfl
  · exact setK_eq _ _ _ _
theorem hputK_eq {α : Type} : ∀ (h : AHeap) (n : Nat) (b : ABlock) (k : AHeap → Option α), hputK h n b k = k (hput h n b)
  | [], n, b, k => rfl
  | (m, c) :: h, n, b, k => by
    have := hputK_eq h n b fun h => k ((m, c) :: h)
    show (match Nat.beq m n with | true => k ((n, b) :: h) | false => hputK h n b fun h => k ((m, c) :: h)) = _
    unfold hput
    cases Nat.beq m n
    · exact this
    · rfl
theorem slot_eq (tmps : List AV) (t : Nat) : slot tmps t = tmps.getD t (.pure undef) := by
  unfold slot
  rw [listGet_eq, List.getD_eq_getElem?_getD]
  cases tmps[t]? <;> rfl
theorem getD_den (ρ : Env) (tmps : List AV) (t : Nat) : (slot tmps t).den ρ = (AV.denL ρ tmps).getD t undef := by
  rw [slot_eq]
  simp [denL_map, List.getD_eq_getElem?_getD]
  cases tmps[t]? <;> simp [AV.den]
theorem info_of {P : Program} {t : TypeId} {i : TypeInfo} (h : infoA P t = some i) : P.info? t = some i := by
  unfold infoA at h
  rw [listGet_eq] at h
  have hl : t < P.types.size := by
    have := (List.getElem?_eq_some_iff.1 h).1
    simpa using this
  unfold Tables.info?
  rw [if_pos hl]
  simpa using h
theorem und_of {P : Program} {t : TypeId} {d : TypeDesc} (h : undA P t = some d) : P.underlying t = some d := by
  unfold undA at h
  unfold Program.underlying
  split at h
  · rename_i i hi
    rw [info_of hi]
    obtain ⟨desc, a, b, c, d', e, f, g, k, l⟩ := i
    simp only at h ⊢
    split at h
    · rename_i s u
      split at h
      · rename_i j hj
        simp only [Option.some.injEq] at h
        subst h
        simp [info_of hj]
      · cases h
    · rename_i d'' hne
      cases desc <;> simp_all
  · cases h
theorem aeval_den (ρ : Env) (tmps : List AV) (ds : List Deferred) (x : Operand) : (⟨(AV.denL ρ tmps).toArray, ds⟩ : Act).eval x = (aeval tmps x).den ρ := by
  cases x <;> simp [aeval, Act.eval, AV.den]
  rename_i t
  have := getD_den ρ tmps t
  simp [List.getD_eq_getElem?_getD] at this
  simp [this]
/-! ### What is equal -/
theorem aeqFields_sound {P : Program} {E : TypeId → Value → Value → Option Bool} {d : Nat} (hE : ∀ t x y b, E t x y = some b → ∀ w, (Op.equalIn d t x y).run P w = .ok b w) (xs ys : Array Value) :
    ∀ (fs : List Field) (b : Bool), aeqFields E P xs ys fs = some b → ∀ w, (Op.eqFields d xs ys fs).run P w = .ok b w
  | [], b, h, w => by simp [aeqFields] at h; subst h; simp [Op.eqFields]
  | f :: fs, b, h, w => by
    unfold aeqFields at h
    unfold Op.eqFields
    split at h
    · rename_i hn
      have hn : f.name = "_" := by simpa using hn
      simp only [hn, ne_eq, not_true_eq_false, if_false]
      exact aeqFields_sound hE xs ys fs b h w
    · rename_i hn
      have hn : f.name ≠ "_" := by simpa using hn
      simp only [ne_eq, hn, not_false_eq_true, if_true]
      split at h
      · rename_i u v hu hv
        split at h
        · rename_i r c hr hc
          simp only [Option.some.injEq] at h
          subst h
          simp only [Sem.run_bind, still_run hu, still_run hv, Result.andThen_ok, hE _ _ _ _ hr w]
          cases r
          · simp
          · simpa using aeqFields_sound hE xs ys fs c hc w
        · cases h
      · cases h
theorem aeqItems_sound {P : Program} {E : TypeId → Value → Value → Option Bool} {d : Nat} (hE : ∀ t x y b, E t x y = some b → ∀ w, (Op.equalIn d t x y).run P w = .ok b w) (e : TypeId) (size : Nat) (xs ys : Array Value) :
    ∀ (is : List Nat) (b : Bool), aeqItems E P e size xs ys is = some b → ∀ w, (Op.eqItems d e size xs ys is).run P w = .ok b w
  | [], b, h, w => by simp [aeqItems] at h; subst h; simp [Op.eqItems]
  | i :: is, b, h, w => by
    unfold aeqItems at h
    unfold Op.eqItems
    split at h
    · rename_i u v hu hv
      split at h
      · rename_i r c hr hc
        simp only [Option.some.injEq] at h
        subst h
        simp only [Sem.run_bind, still_run hu, still_run hv, Result.andThen_ok, hE _ _ _ _ hr w]
        cases r
        · simp
        · simpa using aeqItems_sound hE e size xs ys is c hc w
      · cases h
    · cases h
theorem aeq_sound {P : Program} : ∀ (n : Nat) (t : TypeId) (x y : Value) (b : Bool), aeq P n t x y = some b → ∀ m, n ≤ m → ∀ w, (Op.equalIn m t x y).run P w = .ok b w
  | 0, _, _, _, _, h, _, _, _ => by simp [aeq] at h
  | n + 1, t, x, y, b, h, m, hm, w => by
    obtain ⟨m, rfl⟩ : ∃ k, m = k + 1 := ⟨m - 1, by omega⟩
    have hE : ∀ t x y b, aeq P n t x y = some b → ∀ w, (Op.equalIn m t x y).run P w = .ok b w := fun t x y b h w => aeq_sound n t x y b h m (by omega) w
    unfold aeq at h
    split at h
    · rename_i hu
      split at h
      · simp only [Option.some.injEq] at h; subst h
        simp [Op.equalIn, run_underlying (und_of hu)]
      · cases h
    · rename_i hu
      split at h
      · split at h
        · rename_i hk
          have hk := of_decide_eq_true hk
          simp only [Option.some.injEq] at h; subst h; subst hk
          simp [Op.equalIn, run_underlying (und_of hu)]
        · cases h
      · cases h
    · rename_i hu
      split at h
      · simp only [Option.some.injEq] at h; subst h
        simp [Op.equalIn, run_underlying (und_of hu)]
      · cases h
    · rename_i fs hu
      split at h
      · rename_i xs ys
        split at h
        · rename_i hs
          have hf : P.fieldsOf t = fs := by unfold Program.fieldsOf; rw [und_of hu]
          rw [run_equalIn_struct w m t xs ys (by rw [hf]; exact und_of hu) hs, hf]
          exact aeqFields_sound hE xs ys _ b h w
        · cases h
      · cases h
    · rename_i k e hu
      split at h
      · rename_i xs ys
        split at h
        · rename_i size hs
          have hi : ∃ i, P.info? e = some i ∧ P.cellsOf e = size := by
            unfold sizeT at hs
            split at hs
            · rename_i i hi
              simp only [Option.some.injEq] at hs
              exact ⟨i, info_of hi, by unfold Program.cellsOf; rw [info_of hi]; exact hs⟩
            · cases hs
          obtain ⟨i, hi, hc⟩ := hi
          rw [run_equalIn_array w m xs ys (und_of hu) hi, hc]
          exact aeqItems_sound hE e size xs ys _ b h w
        · cases h
      · cases h
    · cases h
theorem aeqTop_sound {P : Program} {t : TypeId} {xs ys : Array Value} {b : Bool} (h : aeqTop P t xs ys = some b) (x y : Operand) (w : World) :
    (do eqGuard .eql t x y (.agg xs) (.agg ys); binOp .eql t (.agg xs) (.agg ys)).run P w = .ok (.bool b) w ∧
    (do eqGuard .neq t x y (.agg xs) (.agg ys); binOp .neq t (.agg xs) (.agg ys)).run P w = .ok (.bool (!b)) w := by
  unfold aeqTop at h
  split at h
  · rename_i hg
    have he := aeq_sound 12 t _ _ b h 10000 (by omega) w
    simp only [Sem.run_bind, run_eqGuard_agg w _ t x y xs ys hg, Result.andThen_ok, run_eql_struct, run_neq_struct, he]
    exact ⟨trivial, trivial⟩
  · cases h
/-! ### Heaps -/
theorem hcells_get {h : AHeap} {n : Nat} {b : ABlock} (e : hcells h n = some b) : hget h n = some b ∧ b.kind = .cells := by
  unfold hcells at e
  split at e
  · rename_i c hc
    split at e
    · rename_i hk
      cases e
      exact ⟨hc, hk⟩
    · cases e
  · cases e
theorem setMany_eq {α : Type} : ∀ (ps : List (Tmp × AV)) (tm : List AV) (k : List AV → Option α), setMany tm ps k = k (ps.foldl (fun tm p => tm.set p.1 p.2) tm)
  | [], tm, k => rfl
  | (t, v) :: ps, tm, k => by simp only [setMany, setK_eq, setMany_eq ps, List.foldl_cons]
theorem hget_cons (n m : Nat) (b : ABlock) (h : AHeap) : hget ((m, b) :: h) n = if m = n then some b else hget h n := by
  show (match Nat.beq m n with | true => some b | false => hget h n) = _
  cases e : Nat.beq m n
  · have : m ≠ n := by intro k; subst k; simp at e
    simp [this]
  · have : m = n := Nat.eq_of_beq_eq_true e
    simp [this]
theorem hget_put (n m : Nat) (b : ABlock) : ∀ h : AHeap, hget (hput h n b) m = if n = m then some b else hget h m
  | [] => by simp [hput, hget_cons, hget]
  | (k, c) :: h => by
    unfold hput
    cases e : Nat.beq k n
    · have hk : k ≠ n := by intro k; subst k; simp at e
      simp only [hget_cons, hget_put n m b h]
      by_cases h1 : k = m <;> by_cases h2 : n = m <;> simp [h1, h2]
      exact absurd (h1.trans h2.symm) hk
    · have hk : k = n := Nat.eq_of_beq_eq_true e
      subst hk
      simp only [hget_cons]
      by_cases h1 : k = m <;> simp [h1]
theorem hget_del (n m : Nat) : ∀ h : AHeap, hget (hdel h n) m = if n = m then none else hget h m
  | [] => by simp [hdel, hget]
  | (k, c) :: h => by
    unfold hdel
    cases e : Nat.beq k n
    · have hk : k ≠ n := by intro k; subst k; simp at e
      simp only [hget_cons, hget_del n m h]
      by_cases h1 : k = m <;> by_cases h2 : n = m <;> simp [h1, h2]
      exact absurd (h1.trans h2.symm) hk
    · have hk : k = n := Nat.eq_of_beq_eq_true e
      subst hk
      simp only [hget_cons, hget_del k m h]
      by_cases h1 : k = m <;> simp [h1]
theorem hget_from (m n : Nat) : ∀ h : AHeap, hget (hfrom h m) n = if n < m then none else hget h n
  | [] => by simp [hfrom, hget]
  | (k, c) :: h => by
    unfold hfrom
    cases e : Nat.blt k m
    · have hk : ¬ k < m := by intro hk; rw [← Nat.blt_eq] at hk; simp [hk] at e
      simp only [hget_cons, hget_from m n h]
      by_cases h1 : k = n <;> by_cases h2 : n < m <;> simp [h1, h2]
      omega
    · have hk : k < m := by simpa [Nat.blt_eq] using e
      simp only [hget_cons, hget_from m n h]
      by_cases h1 : k = n <;> by_cases h2 : n < m <;> simp [h1, h2]
      omega
theorem hget_below (m n : Nat) : ∀ h : AHeap, hget (hbelow h m) n = if n < m then hget h n else none
  | [] => by simp [hbelow, hget]
  | (k, c) :: h => by
    unfold hbelow
    cases e : Nat.blt k m
    · have hk : ¬ k < m := by intro hk; rw [← Nat.blt_eq] at hk; simp [hk] at e
      simp only [hget_cons, hget_below m n h]
      by_cases h1 : k = n <;> by_cases h2 : n < m <;> simp [h1, h2]
      omega
    · have hk : k < m := by simpa [Nat.blt_eq] using e
      simp only [hget_cons, hget_below m n h]
      by_cases h1 : k = n <;> by_cases h2 : n < m <;> simp [h1, h2]
      omega
theorem hget_append (n : Nat) (k : AHeap) : ∀ h : AHeap, hget (h ++ k) n = match hget h n with | some b => some b | none => hget k n
  | [] => by simp [hget]
  | (m, c) :: h => by
    simp only [List.cons_append, hget_cons, hget_append n k h]
    by_cases h1 : m = n <;> simp [h1]
end Go.Ev
/- Running the program's functions on values that are known in part: what a world must hold; what a step may turn. -/
namespace Go.Ev
open Go.RowKit
def RState.state : RState → LoopState
  | .ready => .ready
  | .busy => .busy
  | .ret => .done
  | .exit _ => .done
def RState.pending : RState → Option Code
  | .ready => none
  | .busy => none
  | .ret => some .ret
  | .exit id => some (.exit id)
mutual
/-- In a world a value is so in depth; the blocks that it lies in are of a kind. -/
def Rp (A : Nat → Prop) (w : World) : D → Value → Prop
  | .one u, v => v = u
  | .list k cs, v => ∃ dv : Option Addr × Nat × Nat, v = sliceOf dv ∧ dv.2.1 = k ∧ k ≤ dv.2.2 ∧ ((k = 0 ∧ cs = []) ∨ ∃ b off, dv.1 = some ⟨b, off, none⟩ ∧ b < w.heap.size ∧ A b ∧ RpAt A w cs b off)
  | .agg cs, v => ∃ vs : List Value, v = .agg vs.toArray ∧ RpL A w cs vs
  | .tup cs, v => ∃ vs : List Value, v = .tuple vs.toArray ∧ RpL A w cs vs
def RpAt (A : Nat → Prop) (w : World) : List D → Nat → Nat → Prop
  | [], _, _ => True
  | c :: cs, b, off => (∃ u, w.cell? ⟨b, off, none⟩ = some u ∧ Rp A w c u) ∧ RpAt A w cs b (off + 1)
def RpL (A : Nat → Prop) (w : World) : List D → List Value → Prop
  | [], vs => vs = []
  | c :: cs, vs => ∃ u us, vs = u :: us ∧ Rp A w c u ∧ RpL A w cs us
end
/-- What is of the one kind in the one world is of the other kind, and as it was, in the other world. -/
def Keep (A : Nat → Prop) (w : World) (A' : Nat → Prop) (w' : World) : Prop := ∀ k, k < w.heap.size → A k → w'.heap[k]? = w.heap[k]? ∧ A' k
theorem cell_congr {w w' : World} {b : Nat} (h : w'.heap[b]? = w.heap[b]?) (o : Nat) : w'.cell? ⟨b, o, none⟩ = w.cell? ⟨b, o, none⟩ := by
  simp [World.cell?, h]
theorem heap_lt {w w' : World} {b : Nat} (h : w'.heap[b]? = w.heap[b]?) (hb : b < w.heap.size) : b < w'.heap.size := by
  rcases Nat.lt_or_ge b w'.heap.size with h1 | h1
  · exact h1
  · rw [Array.getElem?_eq_none h1, Array.getElem?_eq_getElem hb] at h
    cases h
mutual
theorem Rp.keep {A A' : Nat → Prop} {w w' : World} (hk : Keep A w A' w') : ∀ (d : D) {v : Value}, Rp A w d v → Rp A' w' d v
  | .one u, v, h => by simpa only [Rp] using h
  | .list k cs, v, h => by
    simp only [Rp] at h ⊢
    obtain ⟨dv, h1, h2, h3, h4⟩ := h
    refine ⟨dv, h1, h2, h3, ?_⟩
    rcases h4 with h4 | ⟨b, off, h5, h6, h7, h8⟩
    · exact .inl h4
    · obtain ⟨k1, k2⟩ := hk b h6 h7
      exact .inr ⟨b, off, h5, heap_lt k1 h6, k2, RpAt.keep hk k1 cs h8⟩
  | .agg cs, v, h => by
    simp only [Rp] at h ⊢
    obtain ⟨vs, h1, h2⟩ := h
    exact ⟨vs, h1, RpL.keep hk cs h2⟩
  | .tup cs, v, h => by
    simp only [Rp] at h ⊢
    obtain ⟨vs, h1, h2⟩ := h
    exact ⟨vs, h1, RpL.keep hk cs h2⟩
theorem RpAt.keep {A A' : Nat → Prop} {w w' : World} (hk : Keep A w A' w') {b : Nat} (hb : w'.heap[b]? = w.heap[b]?) : ∀ (cs : List D) {off : Nat}, RpAt A w cs b off → RpAt A' w' cs b off
  | [], _, _ => by simp only [RpAt]
  | c :: cs, off, h => by
    simp only [RpAt] at h ⊢
    obtain ⟨⟨u, h1, h2⟩, h3⟩ := h
    exact ⟨⟨u, by rw [cell_congr hb]; exact h1, Rp.keep hk c h2⟩, RpAt.keep hk hb cs h3⟩
theorem RpL.keep {A A' : Nat → Prop} {w w' : World} (hk : Keep A w A' w') : ∀ (cs : List D) {vs : List Value}, RpL A w cs vs → RpL A' w' cs vs
  | [], _, h => by simpa only [RpL] using h
  | c :: cs, vs, h => by
    simp only [RpL] at h ⊢
    obtain ⟨u, us, h1, h2, h3⟩ := h
    exact ⟨u, us, h1, Rp.keep hk c h2, RpL.keep hk cs h3⟩
end
theorem Keep.refl (A : Nat → Prop) (w : World) : Keep A w A w := fun _ _ h => ⟨rfl, h⟩
theorem Keep.wide {A A' : Nat → Prop} {w : World} (h : ∀ k, k < w.heap.size → A k → A' k) : Keep A w A' w := fun k hk ha => ⟨rfl, h k hk ha⟩
/-- A named block lies as it is told. -/
def BlockOK (A : Nat → Prop) (w : World) (ρ : Env) (b : ABlock) (kp : Kap) (o : Option Obj) : Prop := match b.kind with
  | .cells => ∃ arr e rest, o = some (.cells arr e (0, 0)) ∧ arr.toList = AV.denL ρ b.cells ++ rest ∧ (match b.opn with | none => rest = [] | some k => arr.size = kp.cap * k)
  | .big L => ∃ arr e rest vs, o = some (.cells arr e (0, 0)) ∧ arr.toList = vs ++ rest ∧ RpL A w L vs ∧ (match b.opn with | none => rest = [] | some k => arr.size = kp.cap * k)
  | .dfr => o = some (.deferred (some []))
  | .mp born clock => ∃ es, o = some (.map es clock) ∧ (es.toList.map fun e => [e.key, e.val]).flatten = AV.denL ρ b.cells ∧ es.toList.map (·.born) = born
  | .mit since seen last => ∃ r, o = some (.mapIter (some r) since seen.toArray last) ∧ AV.denL ρ b.cells = [.map (some r)]
  | .loop r => okCode r.asg = true ∧ okCode r.body = true ∧ ∃ fn D, o = some (.loop { state := r.st.state, pending := r.st.pending, fn := fn, tmps := (AV.denL ρ b.cells).toArray, params := r.ps, assign := r.asg, body := r.body, defers := D })
  | .deep k cs => Rp A w (.list k cs) (sliceOf kp.dv) ∧ (b.opn = some 0 → kp.dv.2.2 = 0)
theorem BlockOK.some {A : Nat → Prop} {w : World} {ρ : Env} {b : ABlock} {kp : Kap} {o : Option Obj} (h : BlockOK A w ρ b kp o) (hm : b.mem = true) : ∃ x, o = some x := by
  unfold BlockOK at h
  split at h
  · obtain ⟨arr, e, rest, h1, -⟩ := h; exact ⟨_, h1⟩
  · obtain ⟨arr, e, rest, vs, h1, -⟩ := h; exact ⟨_, h1⟩
  · exact ⟨_, h⟩
  · obtain ⟨es, h1, -⟩ := h; exact ⟨_, h1⟩
  · obtain ⟨r, h1, -⟩ := h; exact ⟨_, h1⟩
  · obtain ⟨-, -, fn, dd, h1⟩ := h; exact ⟨_, h1⟩
  · rename_i k cs hk
    unfold ABlock.mem at hm
    rw [hk] at hm
    cases hm
theorem BlockOK.keep2 {A A' : Nat → Prop} {w w' : World} {ρ ρ' : Env} {b b' : ABlock} {kp kp' : Kap} {o o' : Option Obj} (h : BlockOK A w ρ b kp o) (hA : Keep A w A' w') (hb : b'.kind = b.kind ∧ b'.opn = b.opn) (hc : AV.denL ρ' b'.cells = AV.denL ρ b.cells) (hk : kp'.cap = kp.cap ∧ kp'.dv = kp.dv) (ho : b.mem = true → o' = o) : BlockOK A' w' ρ' b' kp' o' := by
  obtain ⟨cells, opn, kind⟩ := b
  obtain ⟨cells', opn', kind'⟩ := b'
  obtain ⟨cap, any, dv⟩ := kp
  obtain ⟨cap', any', dv'⟩ := kp'
  simp only at hb hk
  obtain ⟨rfl, rfl⟩ := hb
  obtain ⟨rfl, rfl⟩ := hk
  cases kind' with
  | deep k cs => exact ⟨Rp.keep hA _ h.1, h.2⟩
  | big L =>
    obtain ⟨arr, e, rest, vs, h1, h2, h3, h4⟩ := h
    exact ⟨arr, e, rest, vs, by rw [ho rfl]; exact h1, h2, h3.keep hA, h4⟩
  | cells =>
    unfold BlockOK at h ⊢
    simp only at h hc ⊢
    rw [hc, ho rfl]
    exact h
  | dfr =>
    unfold BlockOK at h ⊢
    rw [ho rfl]
    exact h
  | mp born clock =>
    unfold BlockOK at h ⊢
    simp only at h hc ⊢
    rw [hc, ho rfl]
    exact h
  | mit since seen last =>
    unfold BlockOK at h ⊢
    simp only at h hc ⊢
    rw [hc, ho rfl]
    exact h
  | loop r =>
    unfold BlockOK at h ⊢
    simp only at h hc ⊢
    rw [hc, ho rfl]
    exact h
theorem BlockOK.keep {A A' : Nat → Prop} {w w' : World} {ρ ρ' : Env} {b : ABlock} {kp kp' : Kap} {o o' : Option Obj} (h : BlockOK A w ρ b kp o) (hA : Keep A w A' w') (hc : AV.denL ρ' b.cells = AV.denL ρ b.cells) (hk : kp' = kp) (ho : b.mem = true → o' = o) : BlockOK A' w' ρ' b kp' o' :=
  h.keep2 hA ⟨rfl, rfl⟩ hc (by rw [hk]; exact ⟨rfl, rfl⟩) ho
/-- Blocks that values in depth may lie in: old ones that are free, or later ones; none that stands under a name. -/
def Free (ρ : Env) (T : Nat → ABlock → Prop) (k : Nat) : Prop := (ρ.A k ∨ ρ.L ≤ k) ∧ ∀ n b, T n b → b.mem = true → ρ.σ n ≠ k
abbrev FreeH (ρ : Env) (h : AHeap) : Nat → Prop := Free ρ (fun n b => hget h n = some b)
/-- The world holds the named blocks; they are apart, and lie from lo on. -/
structure Rep (lo : Nat) (ρ : Env) (h : AHeap) (nxt : Nat) (w : World) : Prop where
  block : ∀ n b, hget h n = some b → BlockOK (FreeH ρ h) w ρ b (ρ.kk n) w.heap[ρ.σ n]?
  inj : ∀ n m b c, hget h n = some b → hget h m = some c → b.mem = true → c.mem = true → ρ.σ n = ρ.σ m → n = m
  scope : ∀ n b, hget h n = some b → n < nxt ∧ AV.okL nxt b.cells = true
  above : ∀ n b, hget h n = some b → b.mem = true → lo ≤ ρ.σ n
  base : ρ.L ≤ w.heap.size
  reach : ∀ n b, hget h n = some b → b.mem = true → ρ.A (ρ.σ n) ∨ ρ.L ≤ ρ.σ n
structure Post (ρ ρ' : Env) (h h' : AHeap) (nxt nxt' low : Nat) (w w' : World) : Prop where
  agree : ∀ n, n < nxt ∨ nxt' ≤ n → ρ'.σ n = ρ.σ n ∧ ρ'.kk n = ρ.kk n
  area : ρ'.A = ρ.A ∧ ρ'.L = ρ.L
  le : nxt ≤ nxt'
  os : w'.os = w.os
  tape : w'.tape = w.tape
  output : w'.output = w.output
  size : w.heap.size ≤ w'.heap.size
  frame : ∀ k, k < w.heap.size → (∀ n b, hget h n = some b → b.mem = true → low ≤ n → ρ.σ n ≠ k) → w'.heap[k]? = w.heap[k]?
  fresh : ∀ n b, hget h' n = some b → b.mem = true → (∃ m c, hget h m = some c ∧ c.mem = true ∧ ρ'.σ n = ρ.σ m ∧ (m = n ∨ low ≤ m)) ∨ w.heap.size ≤ ρ'.σ n
  keep : ∀ n, n < low → n < nxt → hget h' n = hget h n
theorem mem_cells {b : ABlock} (h : b.kind = .cells) : b.mem = true := by unfold ABlock.mem; rw [h]
theorem Rep.cells {lo : Nat} {ρ : Env} {h : AHeap} {nxt : Nat} {w : World} (r : Rep lo ρ h nxt w) {n : Nat} {b : ABlock} (hn : hget h n = some b) (hk : b.kind = .cells) :
    ∃ arr e rest, w.heap[ρ.σ n]? = some (.cells arr e (0, 0)) ∧ arr.toList = AV.denL ρ b.cells ++ rest ∧ (match b.opn with | none => rest = [] | some k => arr.size = (ρ.kk n).cap * k) := by
  have := r.block n b hn
  unfold BlockOK at this
  rw [hk] at this
  exact this
theorem Rep.lt {lo : Nat} {ρ : Env} {h : AHeap} {nxt : Nat} {w : World} (r : Rep lo ρ h nxt w) {n : Nat} {b : ABlock} (hn : hget h n = some b) (hm : b.mem = true) : ρ.σ n < w.heap.size := by
  obtain ⟨x, hb⟩ := (r.block n b hn).some hm
  rcases Nat.lt_or_ge (ρ.σ n) w.heap.size with k | k
  · exact k
  · simp [Array.getElem?_eq_none k] at hb
theorem Post.refl {lo : Nat} {ρ : Env} {h : AHeap} {nxt : Nat} {w : World} (r : Rep lo ρ h nxt w) (low : Nat) : Post ρ ρ h h nxt nxt low w w :=
  ⟨fun _ _ => ⟨rfl, rfl⟩, ⟨rfl, rfl⟩, Nat.le_refl _, rfl, rfl, rfl, Nat.le_refl _, fun _ _ _ => rfl, fun n b hn hm => .inl ⟨n, b, hn, hm, rfl, .inl rfl⟩, fun _ _ _ => rfl⟩
/-- What is free stays so, and as it is. -/
theorem Post.free {ρ ρ' : Env} {h h' : AHeap} {nxt nxt' low : Nat} {w w' : World} (p : Post ρ ρ' h h' nxt nxt' low w w') : Keep (FreeH ρ h) w (FreeH ρ' h') w' := by
  intro k hk hf
  refine ⟨p.frame k hk fun n b hn hm _ => hf.2 n b hn hm, ?_, fun n b hn hm => ?_⟩
  · rw [p.area.1, p.area.2]; exact hf.1
  · rcases p.fresh n b hn hm with ⟨m, c, h1, h2, h3, -⟩ | h1
    · rw [h3]; exact hf.2 m c h1 h2
    · omega
theorem Post.trans {ρ ρ' ρ'' : Env} {h h' h'' : AHeap} {nxt nxt' nxt'' l l' : Nat} {w w' w'' : World} {lo : Nat} (_r : Rep lo ρ h nxt w) (_r' : Rep lo ρ' h' nxt' w')
    (p : Post ρ ρ' h h' nxt nxt' l w w') (q : Post ρ' ρ'' h' h'' nxt' nxt'' l' w' w'') : Post ρ ρ'' h h'' nxt nxt'' (Nat.min l l') w w'' := by
  have le1 := p.le
  have le2 := q.le
  have s1 := p.size
  have s2 := q.size
  have m1 : Nat.min l l' ≤ l := Nat.min_le_left _ _
  have m2 : Nat.min l l' ≤ l' := Nat.min_le_right _ _
  refine ⟨fun n hn => ?_, ⟨q.area.1.trans p.area.1, q.area.2.trans p.area.2⟩, Nat.le_trans p.le q.le, q.os.trans p.os, q.tape.trans p.tape, q.output.trans p.output, Nat.le_trans p.size q.size, fun k hk hne => ?_, fun n b hn hb => ?_, fun n hl hx => ?_⟩
  · have a := p.agree n (by omega)
    have b := q.agree n (by omega)
    exact ⟨b.1.trans a.1, b.2.trans a.2⟩
  · rw [q.frame k (by omega) (fun n b hn hb hl e => ?_), p.frame k hk (fun n b hn hb hl => hne n b hn hb (by omega))]
    rcases p.fresh n b hn hb with ⟨m, c, hm, hc, em, h3⟩ | hf
    · exact hne m c hm hc (by omega) (em.symm.trans e)
    · omega
  · rcases q.fresh n b hn hb with ⟨m, c, hm, hc, em, h3⟩ | hf
    · rcases p.fresh m c hm hc with ⟨k, d, hk, hd, ek, h4⟩ | hf
      · exact .inl ⟨k, d, hk, hd, em.trans ek, by omega⟩
      · right; omega
    · right; omega
  · rw [q.keep n (by omega) (by omega), p.keep n (by omega) hx]
theorem Post.low_le {ρ ρ' : Env} {h h' : AHeap} {nxt nxt' l l' : Nat} {w w' : World} (p : Post ρ ρ' h h' nxt nxt' l w w') (hl : l' ≤ l) : Post ρ ρ' h h' nxt nxt' l' w w' :=
  { p with
    frame := fun k hk hne => p.frame k hk fun n b hn hb hln => hne n b hn hb (by omega)
    fresh := fun n b hn hb => by
      rcases p.fresh n b hn hb with ⟨m, c, hm, hc, em, h3⟩ | hf
      · exact .inl ⟨m, c, hm, hc, em, by omega⟩
      · exact .inr hf
    keep := fun n hn hx => p.keep n (by omega) hx }
theorem Post.below {lo : Nat} {ρ ρ' : Env} {h h' : AHeap} {nxt nxt' l : Nat} {w w' : World} (r : Rep lo ρ h nxt w) (p : Post ρ ρ' h h' nxt nxt' l w w') (hlo : lo ≤ w.heap.size) : Below lo w w' :=
  ⟨p.os, p.tape, p.output, p.size, fun k hk => p.frame k (by omega) (fun n b hn hb _ e => by have := r.above n b hn hb; omega)⟩
theorem Post.den {ρ ρ' : Env} {h h' : AHeap} {nxt nxt' l : Nat} {w w' : World} (p : Post ρ ρ' h h' nxt nxt' l w w') {x : AV} (hx : x.ok nxt = true) : x.den ρ' = x.den ρ :=
  den_agree (fun n hn => p.agree n (.inl hn)) x hx
theorem Post.denL {ρ ρ' : Env} {h h' : AHeap} {nxt nxt' l : Nat} {w w' : World} (p : Post ρ ρ' h h' nxt nxt' l w w') {xs : List AV} (hx : AV.okL nxt xs = true) : AV.denL ρ' xs = AV.denL ρ xs :=
  denL_agree (fun n hn => p.agree n (.inl hn)) xs hx
def noDV : Option Addr × Nat × Nat := (none, 0, 0)
/-- The names' blocks with a new one. -/
def Env.with (ρ : Env) (n b k : Nat) : Env := ⟨fun m => if m = n then b else ρ.σ m, fun m => if m = n then ⟨k, noVal, noDV⟩ else ρ.kk m, ρ.A, ρ.L⟩
theorem Env.with_agree (ρ : Env) (n b k m : Nat) (h : m ≠ n) : (ρ.with n b k).σ m = ρ.σ m ∧ (ρ.with n b k).kk m = ρ.kk m := by simp [Env.with, h]
theorem Env.with_σ (ρ : Env) (n b k : Nat) : (ρ.with n b k).σ n = b := by simp [Env.with]
theorem Env.with_κ (ρ : Env) (n b k : Nat) : ((ρ.with n b k).kk n).cap = k := by simp [Env.with]
theorem Env.with_kk (ρ : Env) (n b k : Nat) : (ρ.with n b k).kk n = ⟨k, noVal, noDV⟩ := by simp [Env.with]
/-- A name for a slice that lies there in depth. -/
def Env.withD (ρ : Env) (n : Nat) (dv : Option Addr × Nat × Nat) : Env := ⟨ρ.σ, fun m => if m = n then ⟨0, noVal, dv⟩ else ρ.kk m, ρ.A, ρ.L⟩
theorem heap_push_old (w : World) (o : Obj) (k : Nat) (h : k < w.heap.size) : ({ w with heap := w.heap.push o } : World).heap[k]? = w.heap[k]? := by
  show (w.heap.push o)[k]? = _
  rw [Array.getElem?_push, if_neg (by omega)]
/-- A new block, of whatever kind. -/
theorem rep_newB {lo : Nat} {ρ : Env} {h : AHeap} {nxt : Nat} {w : World} (r : Rep lo ρ h nxt w) (hlo : lo ≤ w.heap.size) (blk : ABlock) (hok : AV.okL nxt blk.cells = true) (o : Obj) (cap : Nat)
    (hB : ∀ A' w', Keep (FreeH ρ h) w A' w' → BlockOK A' w' (ρ.with nxt w.heap.size cap) blk ⟨cap, noVal, noDV⟩ (some o)) :
    Rep lo (ρ.with nxt w.heap.size cap) ((nxt, blk) :: h) (nxt + 1) { w with heap := w.heap.push o } ∧
    Post ρ (ρ.with nxt w.heap.size cap) h ((nxt, blk) :: h) nxt (nxt + 1) nxt w { w with heap := w.heap.push o } := by
  have ag : ∀ n, n < nxt → (ρ.with nxt w.heap.size cap).σ n = ρ.σ n ∧ (ρ.with nxt w.heap.size cap).kk n = ρ.kk n := fun n hn => Env.with_agree _ _ _ _ _ (by omega)
  have hx : ∀ n b, hget h n = some b → n < nxt := fun n b hn => (r.scope n b hn).1
  have hp : Post ρ (ρ.with nxt w.heap.size cap) h ((nxt, blk) :: h) nxt (nxt + 1) nxt w { w with heap := w.heap.push o } := by
    refine ⟨fun n hn => Env.with_agree _ _ _ _ _ (by omega), ⟨rfl, rfl⟩, by omega, rfl, rfl, rfl, by simp, fun k hk _ => heap_push_old _ _ _ hk, fun n b hn hb => ?_, fun n hl _ => ?_⟩
    · rw [hget_cons] at hn
      split at hn
      · rename_i e'; subst e'
        right; rw [Env.with_σ]; exact Nat.le_refl _
      · exact .inl ⟨n, b, hn, hb, (ag n (hx n b hn)).1, .inl rfl⟩
    · rw [hget_cons]
      split
      · omega
      · rfl
  refine ⟨⟨fun n b hn => ?_, fun n m b c hn hm hb hc e => ?_, fun n b hn => ?_, fun n b hn hb => ?_, Nat.le_trans r.base hp.size, fun n b hn hb => ?_⟩, hp⟩
  rotate_right
  · rw [hget_cons] at hn
    split at hn
    · rename_i e'; subst e'
      rw [Env.with_σ]; exact .inr r.base
    · rw [(ag n (hx n b hn)).1]; exact r.reach n b hn hb
  · rw [hget_cons] at hn
    split at hn
    · rename_i e'; subst e'
      cases hn
      have := hB _ _ (hp.free)
      rw [Env.with_σ, Env.with_kk]
      simpa using this
    · have lt := hx n b hn
      refine (r.block n b hn).keep hp.free (denL_agree ag b.cells (r.scope n b hn).2) (ag n lt).2 fun hm => ?_
      rw [(ag n lt).1, heap_push_old _ _ _ (r.lt hn hm)]
  · rw [hget_cons] at hn hm
    split at hn <;> split at hm
    · omega
    · rename_i e1 _; subst e1
      rw [Env.with_σ, (ag m (hx m c hm)).1] at e
      have := r.lt hm hc; omega
    · rename_i _ e1; subst e1
      rw [Env.with_σ, (ag n (hx n b hn)).1] at e
      have := r.lt hn hb; omega
    · rw [(ag m (hx m c hm)).1, (ag n (hx n b hn)).1] at e
      exact r.inj n m b c hn hm hb hc e
  · rw [hget_cons] at hn
    split at hn
    · rename_i e'; subst e'
      cases hn
      exact ⟨by omega, okL_mono (by omega) _ hok⟩
    · have := r.scope n b hn
      exact ⟨by omega, okL_mono (by omega) _ this.2⟩
  · rw [hget_cons] at hn
    split at hn
    · rename_i e'; subst e'
      rw [Env.with_σ]; exact hlo
    · rw [(ag n (hx n b hn)).1]; exact r.above n b hn hb
/-- A new block. -/
theorem rep_new {lo : Nat} {ρ : Env} {h : AHeap} {nxt : Nat} {w : World} (r : Rep lo ρ h nxt w) (hlo : lo ≤ w.heap.size) (cells : List AV) (hok : AV.okL nxt cells = true)
    (arr : Array Value) (e : TypeId) (rest : List Value) (opn : Option Nat) (cap : Nat) (harr : arr.toList = AV.denL ρ cells ++ rest) (ho : match opn with | none => rest = [] | some k => arr.size = cap * k) :
    Rep lo (ρ.with nxt w.heap.size cap) ((nxt, ⟨cells, opn, .cells⟩) :: h) (nxt + 1) { w with heap := w.heap.push (.cells arr e) } ∧
    Post ρ (ρ.with nxt w.heap.size cap) h ((nxt, ⟨cells, opn, .cells⟩) :: h) nxt (nxt + 1) nxt w { w with heap := w.heap.push (.cells arr e) } := by
  have ag : ∀ n, n < nxt → (ρ.with nxt w.heap.size cap).σ n = ρ.σ n ∧ (ρ.with nxt w.heap.size cap).kk n = ρ.kk n := fun n hn => Env.with_agree _ _ _ _ _ (by omega)
  exact rep_newB r hlo ⟨cells, opn, .cells⟩ hok _ cap fun _ _ _ => ⟨arr, e, rest, rfl, by rw [harr, denL_agree ag cells hok], ho⟩
/-- A new name for a slice that lies there in depth. -/
theorem rep_deepM {lo : Nat} {ρ : Env} {h : AHeap} {nxt : Nat} {w : World} (r : Rep lo ρ h nxt w) (mk : Option Nat) (k : Nat) (cs : List D) (dv : Option Addr × Nat × Nat) (hd : Rp (FreeH ρ h) w (.list k cs) (sliceOf dv)) (hv : mk = some 0 → dv.2.2 = 0) :
    Rep lo (ρ.withD nxt dv) ((nxt, ⟨[], mk, .deep k cs⟩) :: h) (nxt + 1) w ∧ Post ρ (ρ.withD nxt dv) h ((nxt, ⟨[], mk, .deep k cs⟩) :: h) nxt (nxt + 1) nxt w w := by
  have ag : ∀ n, n < nxt → (ρ.withD nxt dv).σ n = ρ.σ n ∧ (ρ.withD nxt dv).kk n = ρ.kk n := fun n hn => by simp [Env.withD]; omega
  have hx : ∀ n b, hget h n = some b → n < nxt := fun n b hn => (r.scope n b hn).1
  have hmem : ∀ n b, hget ((nxt, ⟨[], mk, .deep k cs⟩) :: h) n = some b → b.mem = true → hget h n = some b := fun n b hn hb => by
    rw [hget_cons] at hn
    split at hn
    · cases hn; cases hb
    · exact hn
  have hp : Post ρ (ρ.withD nxt dv) h ((nxt, ⟨[], mk, .deep k cs⟩) :: h) nxt (nxt + 1) nxt w w := by
    refine ⟨fun n hn => by simp [Env.withD]; omega, ⟨rfl, rfl⟩, by omega, rfl, rfl, rfl, Nat.le_refl _, fun k hk _ => rfl, fun n b hn hb => .inl ⟨n, b, hmem n b hn hb, hb, rfl, .inl rfl⟩, fun n hl _ => ?_⟩
    rw [hget_cons, if_neg (by omega)]
  refine ⟨⟨fun n b hn => ?_, fun n m b c hn hm hb hc e => r.inj n m b c (hmem n b hn hb) (hmem m c hm hc) hb hc e, fun n b hn => ?_, fun n b hn hb => r.above n b (hmem n b hn hb) hb, r.base, fun n b hn hb => r.reach n b (hmem n b hn hb) hb⟩, hp⟩
  · rw [hget_cons] at hn
    split at hn
    · rename_i e'; subst e'
      cases hn
      have h1 : ((ρ.withD nxt dv).kk nxt).dv = dv := by simp [Env.withD]
      show Rp _ _ _ _ ∧ (mk = some 0 → _)
      rw [h1]
      exact ⟨Rp.keep hp.free _ hd, hv⟩
    · have lt := hx n b hn
      exact (r.block n b hn).keep hp.free (denL_agree ag b.cells (r.scope n b hn).2) (ag n lt).2 fun _ => by rw [(ag n lt).1]
  · rw [hget_cons] at hn
    split at hn
    · rename_i e'; subst e'
      cases hn
      exact ⟨by omega, rfl⟩
    · have := r.scope n b hn
      exact ⟨by omega, okL_mono (by omega) _ this.2⟩
theorem rep_deep {lo : Nat} {ρ : Env} {h : AHeap} {nxt : Nat} {w : World} (r : Rep lo ρ h nxt w) (k : Nat) (cs : List D) (dv : Option Addr × Nat × Nat) (hd : Rp (FreeH ρ h) w (.list k cs) (sliceOf dv)) :
    Rep lo (ρ.withD nxt dv) ((nxt, ⟨[], none, .deep k cs⟩) :: h) (nxt + 1) w ∧ Post ρ (ρ.withD nxt dv) h ((nxt, ⟨[], none, .deep k cs⟩) :: h) nxt (nxt + 1) nxt w w :=
  rep_deepM r none k cs dv hd fun e => by cases e
/-- A block turned, of whatever kind. -/
theorem rep_putB {lo : Nat} {ρ : Env} {h : AHeap} {nxt : Nat} {w : World} (r : Rep lo ρ h nxt w) {n : Nat} {b : ABlock} (hn : hget h n = some b) (hbm : b.mem = true) (blk : ABlock) (hblk : blk.mem = true) (hok : AV.okL nxt blk.cells = true)
    (w' : World) (hos : w'.os = w.os) (htape : w'.tape = w.tape) (hout : w'.output = w.output) (hsz : w'.heap.size = w.heap.size) (hfr : ∀ k, k ≠ ρ.σ n → w'.heap[k]? = w.heap[k]?)
    (hB : ∀ A', Keep (FreeH ρ h) w A' w' → BlockOK A' w' ρ blk (ρ.kk n) w'.heap[ρ.σ n]?) :
    Rep lo ρ (hput h n blk) nxt w' ∧ Post ρ ρ h (hput h n blk) nxt nxt n w w' := by
  have hp : Post ρ ρ h (hput h n blk) nxt nxt n w w' := by
    refine ⟨fun _ _ => ⟨rfl, rfl⟩, ⟨rfl, rfl⟩, Nat.le_refl _, hos, htape, hout, by omega, fun k _ hne => hfr k (fun e => hne n b hn hbm (Nat.le_refl _) e.symm), fun m c hm hc => ?_, fun m hl _ => ?_⟩
    · rw [hget_put] at hm
      split at hm
      · rename_i e'; subst e'; exact .inl ⟨n, b, hn, hbm, rfl, .inl rfl⟩
      · exact .inl ⟨m, c, hm, hc, rfl, .inl rfl⟩
    · rw [hget_put, if_neg (by omega)]
  have hm' : ∀ m c, hget (hput h n blk) m = some c → c.mem = true → ∃ c', hget h m = some c' ∧ c'.mem = true := fun m c hm hc => by
    rw [hget_put] at hm; split at hm
    · rename_i e'; exact ⟨b, e' ▸ hn, hbm⟩
    · exact ⟨c, hm, hc⟩
  refine ⟨⟨fun m c hm => ?_, fun m k c d hm hk hc hd e => ?_, fun m c hm => ?_, fun m c hm hc => ?_, Nat.le_trans r.base hp.size, fun m c hm hc => ?_⟩, hp⟩
  rotate_right
  · obtain ⟨c', hc', hcm⟩ := hm' m c hm hc
    exact r.reach m c' hc' hcm
  · rw [hget_put] at hm
    split at hm
    · rename_i e'; subst e'
      cases hm
      exact hB _ hp.free
    · rename_i hne
      exact (r.block m c hm).keep hp.free rfl rfl fun hc => hfr _ (fun e => hne (r.inj n m b c hn hm hbm hc e.symm))
  · obtain ⟨c', hc', hcm⟩ := hm' m c hm hc
    obtain ⟨d', hd', hdm⟩ := hm' k d hk hd
    exact r.inj m k c' d' hc' hd' hcm hdm e
  · rw [hget_put] at hm
    split at hm
    · rename_i e'; subst e'
      cases hm
      exact ⟨(r.scope n b hn).1, hok⟩
    · exact r.scope m c hm
  · rw [hget_put] at hm
    split at hm
    · rename_i e'; subst e'; exact r.above n b hn hbm
    · exact r.above m c hm hc
/-- A block written anew. -/
theorem rep_put {lo : Nat} {ρ : Env} {h : AHeap} {nxt : Nat} {w : World} (r : Rep lo ρ h nxt w) {n : Nat} {b : ABlock} (hn : hget h n = some b) (hbm : b.mem = true) (cells : List AV) (hok : AV.okL nxt cells = true)
    (w' : World) (hos : w'.os = w.os) (htape : w'.tape = w.tape) (hout : w'.output = w.output) (hsz : w'.heap.size = w.heap.size) (hfr : ∀ k, k ≠ ρ.σ n → w'.heap[k]? = w.heap[k]?)
    (arr' : Array Value) (e : TypeId) (rest : List Value) (hnew : w'.heap[ρ.σ n]? = some (.cells arr' e (0, 0))) (harr : arr'.toList = AV.denL ρ cells ++ rest) (ho : match b.opn with | none => rest = [] | some k => arr'.size = (ρ.kk n).cap * k) :
    Rep lo ρ (hput h n ⟨cells, b.opn, .cells⟩) nxt w' ∧ Post ρ ρ h (hput h n ⟨cells, b.opn, .cells⟩) nxt nxt n w w' :=
  rep_putB r hn hbm ⟨cells, b.opn, .cells⟩ rfl hok w' hos htape hout hsz hfr fun _ _ => ⟨arr', e, rest, hnew, harr, ho⟩
/-- A world that has only grown. -/
theorem rep_below {lo : Nat} {ρ : Env} {h : AHeap} {nxt : Nat} {w w' : World} (r : Rep lo ρ h nxt w) (hb : Below w.heap.size w w') (low : Nat) : Rep lo ρ h nxt w' ∧ Post ρ ρ h h nxt nxt low w w' := by
  have hp : Post ρ ρ h h nxt nxt low w w' :=
    ⟨fun _ _ => ⟨rfl, rfl⟩, ⟨rfl, rfl⟩, Nat.le_refl _, hb.os, hb.tape, hb.output, hb.size, fun k hk _ => hb.block k hk, fun n b hn hm => .inl ⟨n, b, hn, hm, rfl, .inl rfl⟩, fun _ _ _ => rfl⟩
  refine ⟨⟨fun n b hn => ?_, r.inj, r.scope, r.above, Nat.le_trans r.base hb.size, r.reach⟩, hp⟩
  exact (r.block n b hn).keep hp.free rfl rfl fun hm => hb.block _ (r.lt hn hm)
/-- Some names forgotten. -/
theorem rep_forget {lo : Nat} {ρ : Env} {h h' : AHeap} {nxt : Nat} {w : World} (r : Rep lo ρ h nxt w) (hs : ∀ n b, hget h' n = some b → hget h n = some b) : Rep lo ρ h' nxt w :=
  ⟨fun n b hn => (r.block n b (hs n b hn)).keep (Keep.wide fun _ _ hf => ⟨hf.1, fun n b hn hm => hf.2 n b (hs n b hn) hm⟩) rfl rfl fun _ => rfl, fun n m b c hn hm => r.inj n m b c (hs n b hn) (hs m c hm), fun n b hn => r.scope n b (hs n b hn), fun n b hn => r.above n b (hs n b hn), r.base, fun n b hn => r.reach n b (hs n b hn)⟩
theorem hdel_sub {h : AHeap} {n : Nat} : ∀ m c, hget (hdel h n) m = some c → m ≠ n ∧ hget h m = some c := fun m c hm => by
  rw [hget_del] at hm
  split at hm
  · cases hm
  · rename_i e; exact ⟨fun k => e k.symm, hm⟩
/-- A name dropped, its block turned as one likes. -/
theorem rep_drop {lo : Nat} {ρ : Env} {h : AHeap} {nxt : Nat} {w : World} (r : Rep lo ρ h nxt w) {n : Nat} {b : ABlock} (hn : hget h n = some b) (hbm : b.mem = true)
    (w' : World) (hos : w'.os = w.os) (htape : w'.tape = w.tape) (hout : w'.output = w.output) (hsz : w'.heap.size = w.heap.size) (hfr : ∀ k, k ≠ ρ.σ n → w'.heap[k]? = w.heap[k]?) :
    Rep lo ρ (hdel h n) nxt w' ∧ Post ρ ρ h (hdel h n) nxt nxt n w w' := by
  have hd := @hdel_sub h n
  have hp : Post ρ ρ h (hdel h n) nxt nxt n w w' := by
    refine ⟨fun _ _ => ⟨rfl, rfl⟩, ⟨rfl, rfl⟩, Nat.le_refl _, hos, htape, hout, by omega, fun k _ hne => hfr k (fun e => hne n b hn hbm (Nat.le_refl _) e.symm), fun m c hm hc => .inl ⟨m, c, (hd m c hm).2, hc, rfl, .inl rfl⟩, fun m hl _ => ?_⟩
    rw [hget_del, if_neg (by omega)]
  refine ⟨⟨fun m c hm => ?_, fun m k c d hm hk hc hdd e => r.inj m k c d (hd m c hm).2 (hd k d hk).2 hc hdd e, fun m c hm => r.scope m c (hd m c hm).2, fun m c hm hc => r.above m c (hd m c hm).2 hc, Nat.le_trans r.base hp.size, fun m c hm hc => r.reach m c (hd m c hm).2 hc⟩, hp⟩
  exact (r.block m c (hd m c hm).2).keep hp.free rfl rfl fun hc => hfr _ (fun e => (hd m c hm).1 (r.inj m n c b (hd m c hm).2 hn hc hbm e))
end Go.Ev
/- Running the program's functions on values that are known in part: values in depth. -/
namespace Go.Ev
open Go.RowKit
theorem fact_of {P : Prop} (h : fact P = true) : P := @of_decide_eq_true P (Classical.propDecidable P) h
mutual
theorem avOf_static (nx : Nat) : ∀ d : D, nx ≤ (avOf nx d).2.2 ∧ (avOf nx d).1.ok (avOf nx d).2.2 = true
  | .one v => by simp [avOf, AV.ok, AV.within]
  | .list k cs => by simp [avOf, AV.ok, AV.within, Nat.blt_eq]
  | .agg cs => by
    obtain ⟨h1, h2⟩ := avOfL_static nx cs
    refine ⟨by simpa only [avOf] using h1, ?_⟩
    simp only [avOf]
    unfold mkAgg
    split
    · simp [AV.ok, AV.within]
    · simpa [AV.ok, AV.within, AV.okL] using h2
  | .tup cs => by
    obtain ⟨h1, h2⟩ := avOfL_static nx cs
    refine ⟨by simpa only [avOf] using h1, ?_⟩
    simp only [avOf]
    unfold mkTuple
    split
    · simp [AV.ok, AV.within]
    · simpa [AV.ok, AV.within, AV.okL] using h2
theorem avOfL_static (nx : Nat) : ∀ cs : List D, nx ≤ (avOfL nx cs).2.2 ∧ AV.okL (avOfL nx cs).2.2 (avOfL nx cs).1 = true
  | [] => by simp [avOfL, AV.okL, AV.withinL]
  | c :: cs => by
    obtain ⟨h1, h2⟩ := avOf_static nx c
    obtain ⟨h3, h4⟩ := avOfL_static (avOf nx c).2.2 cs
    simp only [avOfL]
    refine ⟨Nat.le_trans h1 h3, ?_⟩
    unfold AV.okL AV.withinL
    rw [Bool.and_eq_true]
    exact ⟨ok_mono h3 _ h2, h4⟩
end
theorem min_left' {a b : Nat} (h : a ≤ b) : Nat.min a b = a := Nat.min_eq_left h
mutual
theorem avOf_ok {lo : Nat} {w : World} : ∀ (d : D) {ρ : Env} {h : AHeap} {nx : Nat} {v : Value}, Rep lo ρ h nx w → Rp (FreeH ρ h) w d v →
    ∃ ρ', (avOf nx d).1.den ρ' = v ∧ Rep lo ρ' ((avOf nx d).2.1 ++ h) (avOf nx d).2.2 w ∧ Post ρ ρ' h ((avOf nx d).2.1 ++ h) nx (avOf nx d).2.2 nx w w
  | .one u, ρ, h, nx, v, r, hd => by
    simp only [Rp] at hd
    exact ⟨ρ, by simp [avOf, AV.den, hd], r, Post.refl r _⟩
  | .list k cs, ρ, h, nx, v, r, hd => by
    have hd' := hd
    simp only [Rp] at hd
    obtain ⟨dv, rfl, -⟩ := hd
    obtain ⟨a, p⟩ := rep_deep r k cs dv hd'
    exact ⟨_, by simp [avOf, AV.den, Env.withD], a, p⟩
  | .agg cs, ρ, h, nx, v, r, hd => by
    simp only [Rp] at hd
    obtain ⟨vs, rfl, hvs⟩ := hd
    obtain ⟨ρ', h1, h2, h3⟩ := avOfL_ok cs r hvs
    exact ⟨ρ', by simp only [avOf, mkAgg_den, h1], h2, h3⟩
  | .tup cs, ρ, h, nx, v, r, hd => by
    simp only [Rp] at hd
    obtain ⟨vs, rfl, hvs⟩ := hd
    obtain ⟨ρ', h1, h2, h3⟩ := avOfL_ok cs r hvs
    exact ⟨ρ', by simp only [avOf, mkTuple_den, h1], h2, h3⟩
theorem avOfL_ok {lo : Nat} {w : World} : ∀ (cs : List D) {ρ : Env} {h : AHeap} {nx : Nat} {vs : List Value}, Rep lo ρ h nx w → RpL (FreeH ρ h) w cs vs →
    ∃ ρ', AV.denL ρ' (avOfL nx cs).1 = vs ∧ Rep lo ρ' ((avOfL nx cs).2.1 ++ h) (avOfL nx cs).2.2 w ∧ Post ρ ρ' h ((avOfL nx cs).2.1 ++ h) nx (avOfL nx cs).2.2 nx w w
  | [], ρ, h, nx, vs, r, hd => by
    simp only [RpL] at hd
    exact ⟨ρ, by simp [avOfL, AV.denL, hd], r, Post.refl r _⟩
  | c :: cs, ρ, h, nx, vs, r, hd => by
    simp only [RpL] at hd
    obtain ⟨u, us, rfl, h1, h2⟩ := hd
    obtain ⟨ρ1, a1, a2, a3⟩ := avOf_ok c r h1
    obtain ⟨ρ2, b1, b2, b3⟩ := avOfL_ok cs a2 (RpL.keep a3.free cs h2)
    have s1 := avOf_static nx c
    simp only [avOfL, List.append_assoc]
    refine ⟨ρ2, ?_, b2, ?_⟩
    · simp only [AV.denL, b1]
      rw [b3.den s1.2, a1]
    · have := a3.trans r a2 b3
      rwa [min_left' s1.1] at this
end
/-! ### Out of names -/
theorem hdelL_sub : ∀ {ns : List Nat} {h : AHeap} {m : Nat} {c : ABlock}, hget (hdelL h ns) m = some c → m ∉ ns ∧ hget h m = some c
  | [], h, m, c, e => ⟨by simp, e⟩
  | n :: ns, h, m, c, e => by
    obtain ⟨h1, h2⟩ := hdelL_sub (ns := ns) (h := hdel h n) e
    obtain ⟨h3, h4⟩ := hdel_sub m c h2
    exact ⟨by simp [h1, h3], h4⟩
theorem hdelL_get : ∀ {ns : List Nat} {h : AHeap} {m : Nat}, m ∉ ns → hget (hdelL h ns) m = hget h m
  | [], h, m, _ => rfl
  | n :: ns, h, m, e => by
    simp only [List.mem_cons, not_or] at e
    show hget (hdelL (hdel h n) ns) m = _
    rw [hdelL_get e.2, hget_del, if_neg (fun k => e.1 k.symm)]
theorem free_wide {ρ : Env} {h : AHeap} {a b : List Nat} (hs : ∀ n, n ∈ a → n ∈ b) {w : World} : Keep (FreeH ρ (hdelL h a)) w (FreeH ρ (hdelL h b)) w :=
  Keep.wide fun _ _ hf => ⟨hf.1, fun n c hn hm => by
    obtain ⟨h1, h2⟩ := hdelL_sub hn
    exact hf.2 n c (by show hget (hdelL h a) n = some c; rw [hdelL_get (fun k => h1 (hs n k))]; exact h2) hm⟩
theorem lowOf_le : ∀ (ds : List Nat) (l : Nat), lowOf ds l ≤ l ∧ ∀ d ∈ ds, lowOf ds l ≤ d
  | [], l => by simp [lowOf]
  | d :: ds, l => by
    obtain ⟨h1, h2⟩ := lowOf_le ds l
    have m1 : Nat.min d (lowOf ds l) ≤ d := Nat.min_le_left _ _
    have m2 : Nat.min d (lowOf ds l) ≤ lowOf ds l := Nat.min_le_right _ _
    refine ⟨by simp only [lowOf]; omega, fun e he => ?_⟩
    simp only [lowOf]
    rcases List.mem_cons.1 he with rfl | he
    · exact m1
    · have := h2 e he; omega
/-- Names dropped, in a world that has only grown. -/
theorem rep_dropL {lo : Nat} {ρ : Env} {h : AHeap} {nx : Nat} {w w' : World} (r : Rep lo ρ h nx w) (hb : Below w.heap.size w w') (ds : List Nat) :
    Rep lo ρ (hdelL h ds) nx w' ∧ Post ρ ρ h (hdelL h ds) nx nx (lowOf ds nx) w w' := by
  obtain ⟨r1, p1⟩ := rep_below r hb (lowOf ds nx)
  refine ⟨rep_forget r1 fun n b hn => (hdelL_sub hn).2, { p1 with fresh := fun n b hn hm => .inl ⟨n, b, (hdelL_sub hn).2, hm, rfl, .inl rfl⟩, keep := fun n hl _ => hdelL_get fun hn => ?_ }⟩
  have := (lowOf_le ds nx).2 n hn
  omega
theorem dropD_eq (off : Nat) (L : List D) : dropD off L = L.drop off := by cases off <;> rfl
theorem RpL.get {A : Nat → Prop} {w : World} : ∀ {cs : List D} {vs : List Value}, RpL A w cs vs → cs.length = vs.length ∧ ∀ (j : Nat) d, cs[j]? = some d → ∃ u, vs[j]? = some u ∧ Rp A w d u
  | [], vs, h => by
    simp only [RpL] at h
    subst h
    simp
  | c :: cs, vs, h => by
    simp only [RpL] at h
    obtain ⟨u, us, rfl, h1, h2⟩ := h
    obtain ⟨h3, h4⟩ := RpL.get h2
    refine ⟨by simp [h3], fun j d hj => ?_⟩
    cases j with
    | zero => simp at hj; subst hj; exact ⟨u, rfl, h1⟩
    | succ j => simpa using h4 j d (by simpa using hj)
theorem RpL.of {A : Nat → Prop} {w : World} : ∀ {cs : List D} {vs : List Value}, cs.length = vs.length → (∀ (j : Nat) d u, cs[j]? = some d → vs[j]? = some u → Rp A w d u) → RpL A w cs vs
  | [], [], _, _ => by simp only [RpL]
  | [], _ :: _, h, _ => by simp at h
  | _ :: _, [], h, _ => by simp at h
  | c :: cs, v :: vs, h, hp => by
    simp only [RpL]
    exact ⟨v, vs, rfl, hp 0 c v rfl rfl, RpL.of (by simpa using h) fun j d u hj hu => hp (j + 1) d u (by simpa using hj) (by simpa using hu)⟩
theorem RpAt.get {A : Nat → Prop} {w : World} {b : Nat} : ∀ {cs : List D} {off : Nat}, RpAt A w cs b off → ∀ (j : Nat) d, cs[j]? = some d → ∃ u, w.cell? ⟨b, off + j, none⟩ = some u ∧ Rp A w d u
  | [], off, _, j, d, hj => by simp at hj
  | c :: cs, off, h, j, d, hj => by
    simp only [RpAt] at h
    cases j with
    | zero => simp at hj; subst hj; exact h.1
    | succ j =>
      have := RpAt.get h.2 j d (by simpa using hj)
      rwa [show off + 1 + j = off + (j + 1) by omega] at this
theorem RpAt.of {A : Nat → Prop} {w : World} {b : Nat} : ∀ {cs : List D} {off : Nat}, (∀ (j : Nat) d, cs[j]? = some d → ∃ u, w.cell? ⟨b, off + j, none⟩ = some u ∧ Rp A w d u) → RpAt A w cs b off
  | [], off, _ => by simp only [RpAt]
  | c :: cs, off, h => by
    simp only [RpAt]
    refine ⟨by simpa using h 0 c rfl, RpAt.of fun j d hj => ?_⟩
    have := h (j + 1) d (by simpa using hj)
    rwa [show off + (j + 1) = off + 1 + j by omega] at this
/-- What lies in a block, from a place on. -/
theorem RpAt.block {A : Nat → Prop} {w : World} {b : Nat} {arr : Array Value} {ty : TypeId} {vs rest : List Value} {cs : List D} (h1 : w.heap[b]? = some (.cells arr ty (0, 0))) (h2 : arr.toList = vs ++ rest) (h3 : RpL A w cs vs) (off : Nat) :
    RpAt A w (cs.drop off) b off := by
  obtain ⟨h4, h5⟩ := h3.get
  refine RpAt.of fun j d hj => ?_
  rw [List.getElem?_drop] at hj
  obtain ⟨u, hu, hd⟩ := h5 _ d hj
  refine ⟨u, ?_, hd⟩
  have hl : off + j < vs.length := (List.getElem?_eq_some_iff.1 hu).1
  have : arr.toList[off + j]? = some u := by rw [h2, List.getElem?_append_left hl]; exact hu
  simpa [World.cell?, h1] using this
theorem Rp_dCell (A : Nat → Prop) (w : World) (v : Value) : Rp A w (dCell v) v := by
  unfold dCell
  split
  · simp only [Rp]
    exact ⟨(none, 0, 0), rfl, rfl, Nat.le_refl _, .inl (by simp)⟩
  · simp only [Rp]
theorem RpL_map {A : Nat → Prop} {w : World} {f : Value → D} (hf : ∀ v, Rp A w (f v) v) : ∀ vs : List Value, RpL A w (vs.map f) vs
  | [] => by simp only [List.map_nil, RpL]
  | v :: vs => by
    simp only [List.map_cons, RpL]
    exact ⟨v, vs, rfl, hf v, RpL_map hf vs⟩
theorem Rp_dVal1 (A : Nat → Prop) (w : World) (v : Value) : Rp A w (dVal1 v) v := by
  unfold dVal1
  split
  · simp only [Rp]
    exact ⟨_, by simp, RpL_map (Rp_dCell A w) _⟩
  · exact Rp_dCell A w _
theorem Rp_dVal (A : Nat → Prop) (w : World) (v : Value) : Rp A w (dVal v) v := by
  unfold dVal
  split
  · simp only [Rp]
    exact ⟨_, by simp, RpL_map (Rp_dVal1 A w) _⟩
  · exact Rp_dVal1 A w _
mutual
theorem Rp.flat {A A' : Nat → Prop} {w w' : World} : ∀ (d : D) {v : Value}, flatD d = true → Rp A w d v → Rp A' w' d v
  | .one u, v, _, h => by simpa only [Rp] using h
  | .list k cs, v, hf, _ => by simp [flatD] at hf
  | .agg cs, v, hf, h => by
    simp only [Rp] at h ⊢
    obtain ⟨vs, h1, h2⟩ := h
    exact ⟨vs, h1, RpL.flat cs (by simpa [flatD] using hf) h2⟩
  | .tup cs, v, hf, h => by
    simp only [Rp] at h ⊢
    obtain ⟨vs, h1, h2⟩ := h
    exact ⟨vs, h1, RpL.flat cs (by simpa [flatD] using hf) h2⟩
theorem RpL.flat {A A' : Nat → Prop} {w w' : World} : ∀ (cs : List D) {vs : List Value}, flatDs cs = true → RpL A w cs vs → RpL A' w' cs vs
  | [], _, _, h => by simpa only [RpL] using h
  | c :: cs, vs, hf, h => by
    simp only [flatDs, Bool.and_eq_true] at hf
    simp only [RpL] at h ⊢
    obtain ⟨u, us, h1, h2, h3⟩ := h
    exact ⟨u, us, h1, Rp.flat c hf.1 h2, RpL.flat cs hf.2 h3⟩
end
theorem bigOf_spec {h : AHeap} {n : Nat} {L : List D} {on : Option Nat} (e : bigOf h n = some (L, on)) : ∃ b, hget h n = some b ∧ b.kind = .big L ∧ b.opn = on ∧ b.mem = true := by
  unfold bigOf at e
  split at e
  · rename_i b hb
    split at e
    · rename_i M hk
      cases e
      exact ⟨b, hb, hk, rfl, by unfold ABlock.mem; rw [hk]⟩
    · cases e
  · cases e
theorem sliceOf_inj {a b : Option Addr × Nat × Nat} (h : sliceOf a = sliceOf b) : a = b := by
  obtain ⟨a1, a2, a3⟩ := a
  obtain ⟨b1, b2, b3⟩ := b
  unfold sliceOf at h
  simp only [Value.slice.injEq] at h
  obtain ⟨rfl, rfl, rfl⟩ := h
  rfl
theorem sliceOf_eq {ρ : Env} {n : Nat} {p : Option Addr} {l c : Nat} (h : (ρ.kk n).dv = (p, l, c)) : (AV.dsl n).den ρ = .slice p l c := by simp [AV.den, sliceOf, h]
theorem behindOf_eq {ρ : Env} {n b o l c : Nat} (h : (ρ.kk n).dv = (some ⟨b, o, none⟩, l, c)) (off : Nat) : (AV.dptr n off).den ρ = .pointer (some ⟨b, o + off, none⟩) := by simp [AV.den, behindOf, h]
theorem deepOf_spec {h : AHeap} {n k : Nat} {cs : List D} (e : deepOf h n = some (k, cs)) : ∃ b, hget h n = some b ∧ b.kind = .deep k cs := by
  unfold deepOf at e
  split at e
  · rename_i b hb
    split at e
    · rename_i hk
      cases e
      exact ⟨b, hb, hk⟩
    · cases e
  · cases e
section
variable {lo : Nat} {ρ : Env} {h : AHeap} {nx : Nat} {w : World}
theorem Rep.big (r : Rep lo ρ h nx w) {n : Nat} {L : List D} {on : Option Nat} (e : bigOf h n = some (L, on)) :
    ∃ b arr ty rest vs, hget h n = some b ∧ b.mem = true ∧ b.opn = on ∧ w.heap[ρ.σ n]? = some (.cells arr ty (0, 0)) ∧ arr.toList = vs ++ rest ∧ RpL (FreeH ρ h) w L vs ∧ (match b.opn with | none => rest = [] | some k => arr.size = (ρ.kk n).cap * k) := by
  obtain ⟨b, hb, hk, hon, hm⟩ := bigOf_spec e
  have := r.block n b hb
  unfold BlockOK at this
  rw [hk] at this
  obtain ⟨arr, ty, rest, vs, h1, h2, h3, h4⟩ := this
  exact ⟨b, arr, ty, rest, vs, hb, hm, hon, h1, h2, h3, h4⟩
theorem Rep.deep (r : Rep lo ρ h nx w) {n k : Nat} {cs : List D} (e : deepOf h n = some (k, cs)) : Rp (FreeH ρ h) w (.list k cs) (sliceOf (ρ.kk n).dv) := by
  obtain ⟨b, hb, hk⟩ := deepOf_spec e
  have := r.block n b hb
  unfold BlockOK at this
  rw [hk] at this
  exact this.1
/-- A slice without room. -/
theorem Rep.void (r : Rep lo ρ h nx w) {n : Nat} (e : voidAt h n = true) : ∃ q, (ρ.kk n).dv = (q, 0, 0) := by
  unfold voidAt at e
  split at e
  · rename_i b hb
    split at e
    · rename_i hk hon
      have := r.block n b hb
      unfold BlockOK at this
      rw [hk] at this
      obtain ⟨h1, h2⟩ := this
      have h2 := h2 hon
      simp only [Rp] at h1
      obtain ⟨dv, h3, h4, h5, -⟩ := h1
      have h6 := sliceOf_inj h3
      obtain ⟨p, l, c⟩ := dv
      rw [h6] at h2 ⊢
      simp only at h2 h4 h5 ⊢
      exact ⟨p, by rw [h2, h4]⟩
    · cases e
  · cases e
/-- A block that is dropped is free. -/
theorem Rep.freed (r : Rep lo ρ h nx w) {m : Nat} {b : ABlock} (hb : hget h m = some b) (hm : b.mem = true) {drops : List Nat} (hd : m ∈ drops) : FreeH ρ (hdelL h drops) (ρ.σ m) :=
  ⟨r.reach m b hb hm, fun n c hn hc e => by
    obtain ⟨h1, h2⟩ := hdelL_sub hn
    have := r.inj n m c b h2 hb hc hm e
    subst this
    exact h1 hd⟩
theorem free_hdelL {drops : List Nat} : Keep (FreeH ρ h) w (FreeH ρ (hdelL h drops)) w :=
  Keep.wide fun _ _ hf => ⟨hf.1, fun n c hn hm => hf.2 n c (hdelL_sub hn).2 hm⟩
/-- A slice in a block under a name. -/
theorem rp_slice (r : Rep lo ρ h nx w) {m off len : Nat} {b : ABlock} (hb : hget h m = some b) (hm : b.mem = true) {arr : Array Value} {ty : TypeId} {vs rest : List Value} {L : List D} {drops : List Nat} (hd : m ∈ drops)
    (h1 : w.heap[ρ.σ m]? = some (.cells arr ty (0, 0))) (h2 : arr.toList = vs ++ rest) (h3 : RpL (FreeH ρ (hdelL h drops)) w L vs) {cap : Nat} (hc : len ≤ cap) :
    Rp (FreeH ρ (hdelL h drops)) w (.list len (dropD off L)) (.slice (some ⟨ρ.σ m, off, none⟩) len cap) := by
  simp only [Rp]
  refine ⟨(some ⟨ρ.σ m, off, none⟩, len, cap), rfl, rfl, hc, .inr ⟨ρ.σ m, off, rfl, r.lt hb hm, r.freed hb hm hd, ?_⟩⟩
  rw [dropD_eq]
  exact RpAt.block h1 h2 h3 off
theorem dOfCell_ok (r : Rep lo ρ h nx w) {x : AV} {d : D} {drops : List Nat} {c : List (Bool × Bool)} (e : dOfCell h x = some ⟨d, drops, c⟩) (hc : ∀ p ∈ c, p.1 = p.2) : Rp (FreeH ρ (hdelL h drops)) w d (x.den ρ) := by
  unfold dOfCell at e
  split at e
  · cases e
    simp only [AV.den]
    exact Rp_dCell _ _ _
  · split at e
    · rename_i k cs hk
      cases e
      simp only [AV.den]
      exact r.deep hk
    · cases e
  · rename_i m off len cap
    split at e
    · rename_i L on hL
      cases e
      have hf : len ≤ cap := fact_of (hc _ List.mem_cons_self)
      obtain ⟨b, arr, ty, rest, vs, g1, g2, -, g3, g4, g5, -⟩ := r.big hL
      simp only [AV.den]
      exact rp_slice r g1 g2 (by simp) g3 g4 (g5.keep free_hdelL) hf
    · cases e
  · rename_i m off len sub
    split at e
    · rename_i L k hL
      cases e
      obtain ⟨hf, hk⟩ : (sub + len) * k ≤ L.length ∧ 0 < k := fact_of (hc _ List.mem_cons_self)
      obtain ⟨b, arr, ty, rest, vs, g1, g2, g0, g3, g4, g5, g6⟩ := r.big hL
      rw [g0] at g6
      have g6 : arr.size = (ρ.kk m).cap * k := g6
      have hl := g5.get.1
      have hs : arr.size = vs.length + rest.length := by rw [← Array.length_toList, g4, List.length_append]
      have : (sub + len) * k ≤ (ρ.kk m).cap * k := by omega
      have := Nat.le_of_mul_le_mul_right this hk
      simp only [AV.den]
      exact rp_slice r g1 g2 (by simp) g3 g4 (g5.keep free_hdelL) (by omega)
    · cases e
  · cases e
theorem keep_left {a b : List Nat} : Keep (FreeH ρ (hdelL h a)) w (FreeH ρ (hdelL h (a ++ b))) w := free_wide fun _ hn => List.mem_append_left _ hn
theorem keep_right {a b : List Nat} : Keep (FreeH ρ (hdelL h b)) w (FreeH ρ (hdelL h (a ++ b))) w := free_wide fun _ hn => List.mem_append_right _ hn
theorem dOfCells_ok (r : Rep lo ρ h nx w) : ∀ {xs : List AV} {ds : List D} {drops : List Nat} {c : List (Bool × Bool)}, dOfCells h xs = some ⟨ds, drops, c⟩ → (∀ p ∈ c, p.1 = p.2) → RpL (FreeH ρ (hdelL h drops)) w ds (AV.denL ρ xs)
  | [], ds, drops, c, e, _ => by
    simp only [dOfCells, Option.some.injEq, DVs.mk.injEq] at e
    obtain ⟨rfl, rfl, rfl⟩ := e
    simp only [AV.denL, RpL]
  | x :: xs, ds, drops, c, e, hc => by
    unfold dOfCells at e
    split at e
    · rename_i d a c1 ds' as c2 h1 h2
      simp only [Option.some.injEq, DVs.mk.injEq] at e
      obtain ⟨rfl, rfl, rfl⟩ := e
      simp only [AV.denL, RpL]
      exact ⟨_, _, rfl, (dOfCell_ok r h1 fun p hp => hc p (List.mem_append_left _ hp)).keep keep_left, (dOfCells_ok r h2 fun p hp => hc p (List.mem_append_right _ hp)).keep keep_right⟩
    · cases e
theorem dOfSl_ok (r : Rep lo ρ h nx w) {x : AV} {d : D} {drops : List Nat} {c : List (Bool × Bool)} (e : dOfSl h x = some ⟨d, drops, c⟩) (hc : ∀ p ∈ c, p.1 = p.2) : Rp (FreeH ρ (hdelL h drops)) w d (x.den ρ) := by
  unfold dOfSl at e
  split at e
  · rename_i m off len cap
    split at e
    · rename_i blk hb
      split at e
      · rename_i ds a c2 hds
        simp only [Option.some.injEq, DV.mk.injEq] at e
        obtain ⟨rfl, rfl, rfl⟩ := e
        have hf : len ≤ cap := fact_of (hc _ List.mem_cons_self)
        obtain ⟨hb0, hbk⟩ := hcells_get hb
        obtain ⟨arr, ty, rest, g3, g4, -⟩ := r.cells hb0 hbk
        have g5 := dOfCells_ok r hds fun p hp => hc p (List.mem_cons_of_mem _ hp)
        simp only [AV.den]
        exact rp_slice r hb0 (mem_cells hbk) (by simp) g3 g4 (g5.keep (free_wide fun _ hn => List.mem_cons_of_mem _ hn)) hf
      · cases e
    · cases e
  · rename_i m off len sub
    split at e
    · rename_i cs k kd hb
      split at e
      · rename_i ds a c2 hds
        simp only [Option.some.injEq, DV.mk.injEq] at e
        obtain ⟨rfl, rfl, rfl⟩ := e
        obtain ⟨hf, hk⟩ : (sub + len) * k ≤ cs.length ∧ 0 < k := fact_of (hc _ List.mem_cons_self)
        obtain ⟨hb0, hbk⟩ := hcells_get hb
        obtain ⟨arr, ty, rest, g3, g4, g6⟩ := r.cells hb0 hbk
        have g6 : arr.size = (ρ.kk m).cap * k := g6
        have g5 := dOfCells_ok r hds fun p hp => hc p (List.mem_cons_of_mem _ hp)
        have hs : arr.size = cs.length + rest.length := by rw [← Array.length_toList, g4, List.length_append, denL_length]
        have : (sub + len) * k ≤ (ρ.kk m).cap * k := by omega
        have := Nat.le_of_mul_le_mul_right this hk
        simp only [AV.den]
        exact rp_slice r hb0 (mem_cells hbk) (by simp) g3 g4 (g5.keep (free_wide fun _ hn => List.mem_cons_of_mem _ hn)) (by omega)
      · cases e
    · cases e
  · exact dOfCell_ok r e hc
theorem dOfSls_ok (r : Rep lo ρ h nx w) : ∀ {xs : List AV} {ds : List D} {drops : List Nat} {c : List (Bool × Bool)}, dOfSls h xs = some ⟨ds, drops, c⟩ → (∀ p ∈ c, p.1 = p.2) → RpL (FreeH ρ (hdelL h drops)) w ds (AV.denL ρ xs)
  | [], ds, drops, c, e, _ => by
    simp only [dOfSls, Option.some.injEq, DVs.mk.injEq] at e
    obtain ⟨rfl, rfl, rfl⟩ := e
    simp only [AV.denL, RpL]
  | x :: xs, ds, drops, c, e, hc => by
    unfold dOfSls at e
    split at e
    · rename_i d a c1 ds' as c2 h1 h2
      simp only [Option.some.injEq, DVs.mk.injEq] at e
      obtain ⟨rfl, rfl, rfl⟩ := e
      simp only [AV.denL, RpL]
      exact ⟨_, _, rfl, (dOfSl_ok r h1 fun p hp => hc p (List.mem_append_left _ hp)).keep keep_left, (dOfSls_ok r h2 fun p hp => hc p (List.mem_append_right _ hp)).keep keep_right⟩
    · cases e
theorem dOf1_ok (r : Rep lo ρ h nx w) {x : AV} {d : D} {drops : List Nat} {c : List (Bool × Bool)} (e : dOf1 h x = some ⟨d, drops, c⟩) (hc : ∀ p ∈ c, p.1 = p.2) : Rp (FreeH ρ (hdelL h drops)) w d (x.den ρ) := by
  unfold dOf1 at e
  split at e
  · cases e
    simp only [AV.den]
    exact Rp_dVal1 _ _ _
  · rename_i xs
    split at e
    · rename_i ds a c2 hds
      simp only [Option.some.injEq, DV.mk.injEq] at e
      obtain ⟨rfl, rfl, rfl⟩ := e
      simp only [AV.den, Rp]
      exact ⟨_, rfl, dOfSls_ok r hds hc⟩
    · cases e
  · exact dOfSl_ok r e hc
theorem dOf1L_ok (r : Rep lo ρ h nx w) : ∀ {xs : List AV} {ds : List D} {drops : List Nat} {c : List (Bool × Bool)}, dOf1L h xs = some ⟨ds, drops, c⟩ → (∀ p ∈ c, p.1 = p.2) → RpL (FreeH ρ (hdelL h drops)) w ds (AV.denL ρ xs)
  | [], ds, drops, c, e, _ => by
    simp only [dOf1L, Option.some.injEq, DVs.mk.injEq] at e
    obtain ⟨rfl, rfl, rfl⟩ := e
    simp only [AV.denL, RpL]
  | x :: xs, ds, drops, c, e, hc => by
    unfold dOf1L at e
    split at e
    · rename_i d a c1 ds' as c2 h1 h2
      simp only [Option.some.injEq, DVs.mk.injEq] at e
      obtain ⟨rfl, rfl, rfl⟩ := e
      simp only [AV.denL, RpL]
      exact ⟨_, _, rfl, (dOf1_ok r h1 fun p hp => hc p (List.mem_append_left _ hp)).keep keep_left, (dOf1L_ok r h2 fun p hp => hc p (List.mem_append_right _ hp)).keep keep_right⟩
    · cases e
theorem dOf_ok (r : Rep lo ρ h nx w) {x : AV} {d : D} {drops : List Nat} {c : List (Bool × Bool)} (e : dOf h x = some ⟨d, drops, c⟩) (hc : ∀ p ∈ c, p.1 = p.2) : Rp (FreeH ρ (hdelL h drops)) w d (x.den ρ) := by
  unfold dOf at e
  split at e
  · cases e
    simp only [AV.den]
    exact Rp_dVal _ _ _
  · rename_i xs
    split at e
    · rename_i ds a c2 hds
      simp only [Option.some.injEq, DV.mk.injEq] at e
      obtain ⟨rfl, rfl, rfl⟩ := e
      simp only [AV.den, Rp]
      exact ⟨_, rfl, dOf1L_ok r hds hc⟩
    · cases e
  · exact dOf1_ok r e hc
/-- Later blocks are free. -/
theorem free_later (r : Rep lo ρ h nx w) {w' : World} : Keep (fun k => FreeH ρ h k ∨ w.heap.size ≤ k) w' (FreeH ρ h) w' :=
  Keep.wide fun k _ hk => by
    rcases hk with hk | hk
    · exact hk
    · exact ⟨.inr (Nat.le_trans r.base hk), fun n b hn hm e => by have := r.lt hn hm; omega⟩
end
end Go.Ev
/- Arguments that are numbers, truths, strings, structs and arrays of them: their values; and that arguments read as they did. -/
namespace Go.Ev
open Go.ChangeShapes Go.WideShapes Go.ChangeAt Go.RowKit Go.Joins
inductive Leaf where
  | int (k : IntKind)
  | bool
  | str
def Leaf.holds : Leaf → Value → Prop
  | .int k, v => ∃ n, v = .int k n ∧ (Lit.int k n).wf = true
  | .bool, v => ∃ b, v = .bool b
  | .str, v => ∃ s : ByteArray, v = .string s ∧ s.size ≤ maxLen
def leafFields (lf : TypeId → Option (List Leaf)) (P : Program) : Nat → List Field → Option (List Leaf)
  | _, [] => some []
  | off, f :: fs => match lf f.type with
    | some l => match Nat.beq f.offset off && Nat.beq l.length (P.cellsOf f.type) with
      | true => match leafFields lf P (off + l.length) fs with
        | some r => some (l ++ r)
        | none => none
      | false => none
    | none => none
def leaves (P : Program) : Nat → TypeId → Option (List Leaf)
  | 0, _ => none
  | n + 1, t => match P.underlying t with
    | some .bool => some [.bool]
    | some (.int k) => some [.int k]
    | some .string => some [.str]
    | some (.struct fs) => leafFields (leaves P n) P 0 fs.toList
    | some (.array k e) => match leaves P n e with
      | some l => match Nat.beq l.length (P.cellsOf e) with
        | true => some (List.replicate k l).flatten
        | false => none
      | none => none
    | _ => none
section
variable {H : Type} {enc : TypeId × Value → H} {P : Program} {w : World} {base : Nat} {sp : Nat → Bool} {held : Bool}
/-- Nothing below has turned: an argument reads as it did. -/
theorem stays {t : TypeId} (hl : laidOutB P = true) (hr : P.readableRec t = true) (hrow : t < P.types.size) {W W' : World} {sp' : Nat → Bool} {v : Value} {d : DataW H} {ps : List MemPlace}
    (h : DataW.Trod enc P W 0 (fun _ => true) true t v d ps) (hb : Below W.heap.size W W') (hlt : ∀ x ∈ ps, x.block < W.heap.size) (hs : ∀ p ∈ ps, sp' p.block = true) : DataW.Trod enc P W' 0 sp' true t v d ps :=
  WideElems.Trod_stays hl hr hrow h (fun x hx => hb.same (hlt x hx)) hs
end
set_option maxRecDepth 100000 in
theorem post_below {H : Type} {enc : TypeId × Value → H} {P : Program} {f : Func} {s : ChangeSpec} {apart fresh handsOn again : Bool} {W W' : World} {args : Array Value} {v : Value} {ds gs : List (DataW H)} {before pa pv : List MemPlace}
    (hW : DataW.Whole enc P f.params.toList s.vars apart W args.toList ds gs before)
    (hres : ∀ (b : Nat) (sp : Nat → Bool) (hd : Bool), DataW.TrodAll enc P W' b sp hd f.resultTypes.toList (v.resultList f.resultTypes.size) (s.fn H (ds ++ gs)).results [])
    (hargs : ∀ sp : Nat → Bool, (∀ p ∈ before, sp p.block = true) → DataW.TrodAll enc P W' 0 sp true f.params.toList args.toList (s.fn H (ds ++ gs)).args pa)
    (hvars : ∀ sp : Nat → Bool, (∀ p ∈ before, sp p.block = true) → DataW.TrodVars enc P W' sp s.vars (s.fn H (ds ++ gs)).vars pv)
    (hps : before = pa ++ pv) (hB : Below W.heap.size W W')
    (hok : ∀ (j : Nat) (t : TypeId) (r : Value), f.resultTypes[j]? = some t → (v.resultList f.resultTypes.size)[j]? = some r → Value.okWide P W' .any 0 t r) :
    s.post enc P f apart fresh handsOn again W args v W' := by
  have hold : ∀ p ∈ before, (fun b => decide (b < W.heap.size)) p.block = true := fun p hp => by simpa using hW.lt p hp
  have hlt := hW.lt
  refine ⟨ds, gs, before, [], pa, pv, hW, hres _ _ _, hargs _ hold, hvars _ hold, World.keptBut_mono (fun p hp => ⟨hp, ?_⟩) (hB.frame (· ∈ before)), fun _ => ?_⟩
  · rw [hps, List.mem_append] at hp
    exact Or.inr hp
  · obtain ⟨_, _, _, _, _, hz, hn⟩ := hW
    refine ⟨hok, _, _, ([] ++ pa) ++ pv, ⟨[] ++ pa, pv, trodAll_append (hargs _ (fun _ _ => rfl)) (hres _ _ _), hvars _ (fun _ _ => rfl), rfl, ?_, ?_⟩, ?_⟩
    · intro b off hp
      have hp' : MemPlace.cell b off ∈ before := by rw [hps]; simpa using hp
      rw [hB.frozen (p := ⟨b, off, none⟩) (hlt _ hp')]
      exact hz b off hp'
    · intro ha
      have := hn ha
      rw [hps] at this
      simpa using this
    · intro p hp _
      rw [hps]
      simpa using hp
end Go.Ev
/- Arguments that may hold slices: their values in depth. -/
namespace Go.Ev
open Go.ChangeShapes Go.WideShapes Go.ChangeAt Go.RowKit Go.Joins
/-- What a cell may hold. -/
inductive CT where
  | int (k : IntKind)
  | bool
  | str
  | sl (es : List CT)
def ctFields (cf : TypeId → Option (List CT)) (P : Program) : Nat → List Field → Option (List CT)
  | _, [] => some []
  | off, f :: fs => match cf f.type with
    | some l => match Nat.beq f.offset off && Nat.beq l.length (P.cellsOf f.type) with
      | true => match ctFields cf P (off + l.length) fs with
        | some r => some (l ++ r)
        | none => none
      | false => none
    | none => none
/-- The cells of a type. -/
def ctOf (P : Program) : Nat → TypeId → Option (List CT)
  | 0, _ => none
  | n + 1, t => match P.underlying t with
    | some .bool => some [.bool]
    | some (.int k) => some [.int k]
    | some .string => some [.str]
    | some (.struct fs) => ctFields (ctOf P n) P 0 fs.toList
    | some (.array k e) => match ctOf P n e with
      | some l => match Nat.beq l.length (P.cellsOf e) with
        | true => some (List.replicate k l).flatten
        | false => none
      | none => none
    | some (.slice e) => match ctOf P n e with
      | some l => match Nat.beq l.length (P.cellsOf e) && !(Nat.beq l.length 0) with
        | true => some [.sl l]
        | false => none
      | none => none
    | _ => none
mutual
def okD : CT → D → Prop
  | .int k, d => ∃ n, d = .one (.int k n) ∧ (Lit.int k n).wf = true
  | .bool, d => ∃ b, d = .one (.bool b)
  | .str, d => ∃ s : ByteArray, d = .one (.string s) ∧ s.size ≤ maxLen
  | .sl es, d => ∃ rows : List (List D), d = .list rows.length rows.flatten ∧ rows.length ≤ maxLen ∧ ∀ r ∈ rows, okDs es r
def okDs : List CT → List D → Prop
  | [], ds => ds = []
  | c :: cs, ds => ∃ d r, ds = d :: r ∧ okD c d ∧ okDs cs r
end
theorem okDs_append : ∀ {a b : List CT} {xs ys : List D}, okDs a xs → okDs b ys → okDs (a ++ b) (xs ++ ys)
  | [], b, xs, ys, h, k => by
    simp only [okDs] at h
    subst h; exact k
  | l :: a, b, xs, ys, h, k => by
    simp only [okDs] at h
    obtain ⟨v, ws, rfl, h1, h2⟩ := h
    simp only [List.cons_append, okDs]
    exact ⟨v, ws ++ ys, rfl, h1, okDs_append h2 k⟩
theorem RpL_append {A : Nat → Prop} {w : World} : ∀ {a b : List D} {xs ys : List Value}, RpL A w a xs → RpL A w b ys → RpL A w (a ++ b) (xs ++ ys)
  | [], b, xs, ys, h, k => by
    simp only [RpL] at h
    subst h; exact k
  | d :: a, b, xs, ys, h, k => by
    simp only [RpL] at h
    obtain ⟨v, ws, rfl, h1, h2⟩ := h
    simp only [List.cons_append, RpL]
    exact ⟨v, ws ++ ys, rfl, h1, RpL_append h2 k⟩
theorem RpL_len {A : Nat → Prop} {w : World} {ds : List D} {vs : List Value} (h : RpL A w ds vs) : ds.length = vs.length := h.get.1
section
variable {H : Type} {enc : TypeId × Value → H} {P : Program} {w : World} {base : Nat} {sp : Nat → Bool} {held : Bool}
/-- Cells that hold values in depth of their kinds. -/
def Cells (w : World) (l : List CT) (cs : List Value) : Prop := ∃ ds, okDs l ds ∧ RpL (fun _ => True) w ds cs
theorem Cells.append {a b : List CT} {xs ys : List Value} (h : Cells w a xs) (k : Cells w b ys) : Cells w (a ++ b) (xs ++ ys) := by
  obtain ⟨d, h1, h2⟩ := h
  obtain ⟨e, k1, k2⟩ := k
  exact ⟨d ++ e, okDs_append h1 k1, RpL_append h2 k2⟩
theorem Cells.nil : Cells w [] [] := ⟨[], by simp only [okDs], by simp only [RpL]⟩
theorem Cells.one {c : CT} {d : D} {v : Value} (h : okD c d) (k : Rp (fun _ => True) w d v) : Cells w [c] [v] :=
  ⟨[d], by simp only [okDs]; exact ⟨d, [], rfl, h, rfl⟩, by simp only [RpL]; exact ⟨v, [], rfl, k, rfl⟩⟩
theorem ct_fields {cf : TypeId → Option (List CT)} {m : Nat} (hcf : ∀ t l, cf t = some l → l.length = P.cellsOf t → ∀ cs x, DataW.trod enc P w base sp held m t cs = some x → Cells w l cs) (cs : List Value) :
    ∀ (fs : List Field) (off : Nat) (ls : List CT) (xs : List (DataW H × List MemPlace)), ctFields cf P off fs = some ls → xs.length = fs.length →
      (∀ (i : Nat) (f : Field), fs[i]? = some f → DataW.trod enc P w base sp held m f.type ((cs.drop f.offset).take (P.cellsOf f.type)) = xs[i]?) → off + ls.length = cs.length →
      Cells w ls (cs.drop off)
  | [], off, ls, xs, h, hx, _, hl => by
    simp only [ctFields, Option.some.injEq] at h
    subst h
    rw [List.drop_eq_nil_of_le (by simp at hl; omega)]
    exact Cells.nil
  | f :: fs, off, ls, xs, h, hx, ht, hl => by
    unfold ctFields at h
    split at h
    · rename_i l hlt
      split at h
      · rename_i hb
        simp only [Bool.and_eq_true] at hb
        have h1 := Nat.eq_of_beq_eq_true hb.1
        have h2 := Nat.eq_of_beq_eq_true hb.2
        split at h
        · rename_i r hr
          cases h
          match xs, hx with
          | x :: xs, hx =>
            have t0 := ht 0 f rfl
            simp only [List.getElem?_cons_zero] at t0
            have a1 := hcf _ _ hlt h2 _ _ t0
            have b1 := ct_fields hcf cs fs (off + l.length) r xs hr (by simpa using hx) (fun i g hg => by simpa using ht (i + 1) g (by simpa using hg)) (by rw [List.length_append] at hl; omega)
            rw [h1, ← h2] at a1
            have := (List.take_append_drop l.length (cs.drop off)).symm
            rw [List.drop_drop] at this
            rw [this]
            exact a1.append b1
        · cases h
      · cases h
    · cases h
theorem ct_row {l : List CT} {c : Nat} (hc : l.length = c) (cs : List Value) : ∀ (k off : Nat), (∀ i, i < k → Cells w l ((cs.drop (off + i * c)).take c)) → off + k * c = cs.length → Cells w (List.replicate k l).flatten (cs.drop off)
  | 0, off, _, hl => by
    rw [List.drop_eq_nil_of_le (by omega)]
    exact Cells.nil
  | k + 1, off, h, hl => by
    rw [List.replicate_succ, List.flatten_cons]
    have h0 := h 0 (by omega)
    rw [Nat.zero_mul, Nat.add_zero] at h0
    have := ct_row hc cs k (off + c) (fun i hi => by
      have := h (i + 1) (by omega)
      rwa [show off + (i + 1) * c = off + c + i * c by rw [Nat.add_mul]; omega] at this) (by rw [Nat.add_mul] at hl; omega)
    have e := (List.take_append_drop c (cs.drop off)).symm
    rw [List.drop_drop] at e
    rw [e]
    exact h0.append this
/-- Elements that lie one behind the other. -/
theorem ct_elems {l : List CT} {a : Addr} {c : Nat} (hc : l.length = c) (h0 : c ≠ 0) (ha : a.spot = none) : ∀ (n i : Nat),
    (∀ j, i ≤ j → j < i + n → ∃ cs, w.cells? base (a.add (j * c)) c = some cs ∧ Cells w l cs) →
    ∃ rows : List (List D), rows.length = n ∧ (∀ r ∈ rows, okDs l r) ∧ RpAt (fun _ => True) w rows.flatten a.block (a.off + i * c)
  | 0, i, _ => ⟨[], rfl, by simp, by simp only [List.flatten_nil, RpAt]⟩
  | n + 1, i, h => by
    obtain ⟨cs, h1, ds, h2, h3⟩ := h i (Nat.le_refl _) (by omega)
    obtain ⟨rows, h4, h5, h6⟩ := ct_elems hc h0 ha n (i + 1) fun j hj hj' => h j (by omega) (by omega)
    obtain ⟨hb, hl, hr⟩ := World.cells?_some h1
    have hdl := RpL_len h3
    refine ⟨ds :: rows, by simp [h4], by simpa using ⟨h2, h5⟩, ?_⟩
    rw [List.flatten_cons]
    refine RpAt.of fun j d hj => ?_
    rcases Nat.lt_or_ge j ds.length with hlt | hge
    · rw [List.getElem?_append_left hlt] at hj
      obtain ⟨u, hu, hd⟩ := h3.get.2 j d hj
      refine ⟨u, ?_, hd⟩
      have := hr j (by omega)
      rw [hu] at this
      rw [← this]
      congr 1
      obtain ⟨b, off, spot⟩ := a
      simp only at ha
      subst ha
      unfold Addr.add
      by_cases z1 : i * c = 0 <;> by_cases z2 : j = 0 <;> simp [z1, z2] <;> omega
    · rw [List.getElem?_append_right hge] at hj
      obtain ⟨u, hu, hd⟩ := RpAt.get h6 _ d hj
      refine ⟨u, ?_, hd⟩
      have hcl : ds.length = c := by rw [hdl, hl]
      rw [← hu]
      congr 2
      rw [hcl, Nat.add_mul]; rw [hcl] at hge; omega
theorem ct_spec : ∀ (n : Nat) (t : TypeId) (ls : List CT), ctOf P n t = some ls → ls.length = P.cellsOf t → ∀ (m : Nat) (cs : List Value) (x : DataW H × List MemPlace),
    DataW.trod enc P w base sp held m t cs = some x → Cells w ls cs
  | 0, _, _, h, _, _, _, _, _ => by cases h
  | n + 1, t, ls, h, hc, m, cs, x, hx => by
    unfold ctOf at h
    split at h
    · rename_i hu
      cases h
      obtain ⟨b, rfl, rfl⟩ := DataW.trod_bool hu hx
      exact Cells.one (d := .one (.bool b)) (by simp only [okD]; exact ⟨b, rfl⟩) (by simp only [Rp])
    · rename_i k hu
      cases h
      obtain ⟨b, rfl, rfl, hw⟩ := DataW.trod_int hu hx
      exact Cells.one (d := .one (.int k b)) (by simp only [okD]; exact ⟨b, rfl, hw⟩) (by simp only [Rp])
    · rename_i hu
      cases h
      obtain ⟨b, rfl, rfl, hw⟩ := DataW.trod_string hu hx
      exact Cells.one (d := .one (.string b)) (by simp only [okD]; exact ⟨b, rfl, hw⟩) (by simp only [Rp])
    · rename_i fs hu
      obtain ⟨xs, m', rfl, rfl, hl, hn, hf⟩ := DataW.trod_struct hu hx
      have := ct_fields (enc := enc) (w := w) (base := base) (sp := sp) (held := held) (m := m') (fun t l a b cs x c => ct_spec n t l a b m' cs x c) cs fs.toList 0 ls xs h (by simpa using hn) (fun i f hi => hf i f (by simpa using hi)) (by omega)
      simpa using this
    · rename_i k e hu
      obtain ⟨xs, m', rfl, rfl, hl, hn, hf⟩ := DataW.trod_array hu hx
      split at h
      · rename_i l hle
        split at h
        · rename_i hb
          have hb := Nat.eq_of_beq_eq_true hb
          cases h
          have each : ∀ i, i < k → Cells w l ((cs.drop (i * P.cellsOf e)).take (P.cellsOf e)) := fun i hi => by
            have := hf i hi
            rw [List.getElem?_eq_getElem (by omega)] at this
            exact ct_spec n e l hle hb m' _ _ this
          have := ct_row (w := w) hb cs k 0 (fun i hi => by rw [Nat.zero_add]; exact each i hi) (by rw [← hb] at *; simp at hc; omega)
          simpa using this
        · cases h
      · cases h
    · rename_i e hu
      split at h
      · rename_i l hle
        split at h
        · rename_i hb
          simp only [Bool.and_eq_true, Bool.not_eq_true'] at hb
          have hb1 := Nat.eq_of_beq_eq_true hb.1
          have hb2 : l.length ≠ 0 := fun e => by simp [e] at hb
          cases h
          rcases DataW.trod_slice hu hx with ⟨rfl, -⟩ | ⟨a, len, cap, elems, rest, m', rfl, rfl, -, hba, hlc, hcm, hel, hget, -, -⟩
          · refine Cells.one (d := .list 0 []) ?_ ?_
            · simp only [okD]
              exact ⟨[], rfl, Nat.zero_le _, by simp⟩
            · simp only [Rp]
              exact ⟨(none, 0, 0), rfl, rfl, Nat.le_refl _, .inl ⟨trivial, trivial⟩⟩
          · have each : ∀ j, j < len → ∃ cs, w.cells? base (a.add (j * l.length)) l.length = some cs ∧ Cells w l cs := fun j hj => by
              have := hget j hj
              rw [List.getElem?_eq_getElem (by omega), Option.bind_eq_some_iff] at this
              obtain ⟨cs, h1, h2⟩ := this
              exact ⟨cs, by rw [hb1]; exact h1, ct_spec n e l hle hb1 m' cs _ h2⟩
            rcases Nat.eq_zero_or_pos len with h0 | h0
            · subst h0
              refine Cells.one (d := .list 0 []) ?_ ?_
              · simp only [okD]
                exact ⟨[], rfl, Nat.zero_le _, by simp⟩
              · simp only [Rp]
                exact ⟨(some a, 0, cap), rfl, rfl, hlc, .inl ⟨trivial, trivial⟩⟩
            · obtain ⟨cs0, h1, -⟩ := each 0 h0
              obtain ⟨hb0, hl0, hr0⟩ := World.cells?_some h1
              have hsome : ∃ v, w.cell? a = some v := by
                have := hr0 0 (by omega)
                rw [List.getElem?_eq_getElem (by omega)] at this
                have e : (a.add (0 * l.length)).add 0 = a := by simp [Addr.add]
                rw [e] at this
                exact ⟨_, this⟩
              have hspot : a.spot = none ∧ a.block < w.heap.size := by
                obtain ⟨v, hv⟩ := hsome
                unfold World.cell? at hv
                split at hv
                · rename_i c _ _ hh
                  split at hv
                  · cases hv
                  · rename_i hs
                    refine ⟨by simpa using hs, ?_⟩
                    rcases Nat.lt_or_ge a.block w.heap.size with h2 | h2
                    · exact h2
                    · rw [Array.getElem?_eq_none h2] at hh; cases hh
                · cases hv
              obtain ⟨rows, h4, h5, h6⟩ := ct_elems (w := w) (base := base) (a := a) rfl hb2 hspot.1 len 0 fun j _ hj => each j (by omega)
              rw [Nat.zero_mul, Nat.add_zero] at h6
              refine Cells.one (d := .list rows.length rows.flatten) ?_ ?_
              · simp only [okD]
                exact ⟨rows, rfl, by omega, h5⟩
              · simp only [Rp]
                obtain ⟨b, off, spot⟩ := a
                obtain rfl := hspot.1
                exact ⟨(some ⟨b, off, none⟩, len, cap), rfl, h4.symm, by show rows.length ≤ cap; omega, .inr ⟨b, off, rfl, hspot.2, trivial, h6⟩⟩
        · cases h
      · cases h
    · cases h
/-- An argument's value in depth, by its type. -/
theorem ct_arg {n : Nat} {t : TypeId} {ls : List CT} (h : ctOf P n t = some ls) (hc : ls.length = P.cellsOf t) {m : Nat} {cs : List Value} {x : DataW H × List MemPlace} (hx : DataW.trod enc P w base sp held m t cs = some x) : Cells w ls cs := ct_spec n t ls h hc m cs x hx
end
end Go.Ev
namespace Go.Ev
open Go.ChangeShapes Go.WideShapes Go.ChangeAt Go.RowKit Go.Joins
section
variable {H : Type} {enc : TypeId × Value → H} {P : Program} {w : World} {base : Nat} {sp : Nat → Bool} {held : Bool}
/-- An argument that is a struct or an array. -/
theorem open_agg {r : Reach} {b0 : Nat} {t : TypeId} {v : Value} {d : DataW H} {p : List MemPlace} {ls : List CT} (n : Nat) (hl : ctOf P n t = some ls) (hc : ls.length = P.cellsOf t) (hag : (match P.underlying t with | some (.struct _) => true | some (.array _ _) => true | _ => false) = true)
    (hv : Value.okWide P w r b0 t v) (h : DataW.Trod enc P w base sp held t v d p) : ∃ ds, okDs ls ds ∧ Rp (fun _ => True) w (.agg ds) v := by
  have hcs : ∃ cs, v = .agg cs := by
    unfold Value.okWide at hv
    split at hv
    · obtain ⟨cs, h1, _⟩ := hv; exact ⟨cs, h1⟩
    · obtain ⟨cs, h1, _⟩ := hv; exact ⟨cs, h1⟩
    · rename_i h1 h2
      split at hag
      · rename_i fs e; exact absurd e (h1 fs)
      · rename_i k e e'; exact absurd e' (h2 k e)
      · cases hag
  obtain ⟨cs, rfl⟩ := hcs
  obtain ⟨m, hm⟩ := h
  obtain ⟨ds, a, b⟩ := ct_arg hl hc hm
  refine ⟨ds, a, ?_⟩
  simp only [Rp]
  exact ⟨cs.toList, by simp, b⟩
/-- An argument of one cell. -/
theorem open_cell {r : Reach} {b0 : Nat} {t : TypeId} {v : Value} {d : DataW H} {p : List MemPlace} {c : CT} (n : Nat) (hl : ctOf P n t = some [c]) (hc : [c].length = P.cellsOf t) (hag : (match P.underlying t with | some (.int _) => true | some .bool => true | some .string => true | some (.slice _) => true | _ => false) = true)
    (hv : Value.okWide P w r b0 t v) (h : DataW.Trod enc P w base sp held t v d p) : ∃ d, okD c d ∧ Rp (fun _ => True) w d v := by
  have hcs : v.cells = #[v] := by
    split at hag
    · rename_i k hu; obtain ⟨n, rfl⟩ := okWide_int hu hv; rfl
    · rename_i hu; obtain ⟨n, rfl⟩ := okWide_bool hu hv; rfl
    · rename_i hu; obtain ⟨n, rfl⟩ := okWide_string hu hv; rfl
    · rename_i e hu; obtain ⟨a, l, k, rfl⟩ := okWide_slice hu hv; rfl
    · cases hag
  obtain ⟨m, hm⟩ := h
  rw [hcs] at hm
  obtain ⟨ds, a, b⟩ := ct_arg hl hc hm
  simp only [okDs] at a
  obtain ⟨d, r, rfl, hd, rfl⟩ := a
  simp only [RpL] at b
  obtain ⟨u, us, e, h1, h2⟩ := b
  subst h2
  simp only [List.cons.injEq, and_true] at e
  subst e
  exact ⟨d, hd, h1⟩
end
end Go.Ev
/- Running the program's functions on values that are known in part: one operation is carried out as it was reckoned. -/
namespace Go.Ev
open Go.RowKit
/-- The tables lie as they are given. -/
def Tab (tab : Nat → Nat → Option Value) (w : World) : Prop := ∀ g o v, tab g o = some v → w.cell? ⟨g, o, none⟩ = some v
theorem add_plain (b off i : Nat) : (⟨b, off, none⟩ : Addr).add i = ⟨b, off + i, none⟩ := by unfold Addr.add; split <;> simp_all
theorem run_isAgg {P : Program} {t : TypeId} {g : Bool} (h : aggType P t = some g) (w : World) : (isAgg t).run P w = .ok g w := by
  unfold aggType at h
  cases hu : undA P t with
  | none => simp [hu] at h
  | some d =>
    simp only [isAgg, Sem.run_bind, run_underlying (und_of hu), Result.andThen_ok]
    rw [hu] at h
    cases d <;> simp at h <;> subst h <;> rfl
theorem run_info {P : Program} {t : TypeId} {i : TypeInfo} (h : P.info? t = some i) (w : World) : (typeInfo t).run P w = .ok i w := by
  simp [typeInfo, h]
theorem run_sizeT {P : Program} {t : TypeId} {n : Nat} (h : sizeT P t = some n) (w : World) : (sizeOf t).run P w = .ok n w := by
  unfold sizeT at h
  cases hi : infoA P t with
  | none => simp [hi] at h
  | some i => simp [hi] at h; subst h; simp [sizeOf, run_info (info_of hi)]
theorem run_zeroT {P : Program} {t : TypeId} {z : Value} (h : zeroT P t = some z) (w : World) : (zeroValue t).run P w = .ok z w := by
  unfold zeroT at h
  cases hi : infoA P t with
  | none => simp [hi] at h
  | some i => simp [hi] at h; simp [zeroValue, run_info (info_of hi), h]
theorem cut_spec {xs ys : List AV} {off n : Nat} (h : cut xs off n = some ys) : ys.length = n ∧ ∀ j, j < n → ys[j]? = xs[off + j]? := by
  unfold cut at h
  simp only at h
  split at h
  · rename_i e
    cases h
    have hl := Nat.eq_of_beq_eq_true e
    refine ⟨hl, fun j hj => ?_⟩
    rw [List.getElem?_take, if_pos hj, List.getElem?_drop]
  · cases h
theorem cell_of_block {lo : Nat} {ρ : Env} {h : AHeap} {nxt : Nat} {w : World} (r : Rep lo ρ h nxt w) {n : Nat} {b : ABlock} (hn : hcells h n = some b) {j : Nat} {x : AV} (hj : b.cells[j]? = some x) :
    w.cell? ⟨ρ.σ n, j, none⟩ = some (x.den ρ) := by
  obtain ⟨hn, hk⟩ := hcells_get hn
  obtain ⟨arr, e, rest, h1, h2, -⟩ := r.cells hn hk
  have hl : j < b.cells.length := (List.getElem?_eq_some_iff.1 hj).1
  have : arr.toList[j]? = some (x.den ρ) := by
    rw [h2, List.getElem?_append_left (by rw [denL_length]; exact hl), denL_map, List.getElem?_map, hj]
    rfl
  simpa [World.cell?, h1] using this
theorem tabCells_spec {tab : Nat → Nat → Option Value} {w : World} (ht : Tab tab w) (ρ : Env) (g : Nat) : ∀ {n o : Nat} {xs : List AV}, tabCells tab g o n = some xs →
    xs.length = n ∧ ∀ j x, xs[j]? = some x → w.cell? ⟨g, o + j, none⟩ = some (x.den ρ)
  | 0, o, xs, h => by simp [tabCells] at h; subst h; simp
  | n + 1, o, xs, h => by
    unfold tabCells at h
    split at h
    · rename_i v vs hv hvs
      cases h
      obtain ⟨hl, hc⟩ := tabCells_spec ht ρ g hvs
      refine ⟨by simp [hl], fun j x hj => ?_⟩
      cases j with
      | zero => simp at hj; subst hj; simpa [AV.den] using ht g o v hv
      | succ j => have := hc j x (by simpa using hj); rwa [show o + 1 + j = o + (j + 1) by omega] at this
    · cases h
theorem run_whole {P : Program} {t : TypeId} {g : Bool} {size : Nat} (hg : aggType P t = some g) (hs : sizeT P t = some size) {xs : List AV} {v : AV} (ρ : Env) (w : World) (b off : Nat)
    (hl : xs.length = (width g size)) (hc : ∀ j x, xs[j]? = some x → w.cell? ⟨b, off + j, none⟩ = some (x.den ρ)) (hv : whole g xs = some v) :
    (loadVar t ⟨b, off, none⟩).run P w = .ok (v.den ρ) w := by
  cases g with
  | true =>
    simp only [whole, Option.some.injEq] at hv
    subst hv
    simp only [width] at hl
    have hL := run_loadCells_list (P := P) w ⟨b, off, none⟩ (AV.denL ρ xs) (fun j u hj => by
      rw [denL_map, List.getElem?_map] at hj
      cases hx : xs[j]? with
      | none => simp [hx] at hj
      | some x => simp [hx] at hj; subst hj; rw [add_plain]; exact hc j x hx)
    rw [denL_length, hl] at hL
    simp [loadVar, run_isAgg hg, run_sizeT hs, hL, mkAgg_den]
  | false =>
    simp only [width] at hl
    match xs, hl, hv with
    | [x], _, hv =>
      simp only [whole, Option.some.injEq] at hv
      subst hv
      have := hc 0 x rfl
      simp only [Nat.add_zero] at this
      simp [loadVar, run_isAgg hg, this]
theorem aload_sound {C : Ctx} {lo : Nat} {ρ : Env} {h : AHeap} {nxt : Nat} {w : World} (r : Rep lo ρ h nxt w) (ht : Tab C.tab w) {t : TypeId} {x v : AV} (hv : aload C h t x = some v) :
    ∃ a, x.den ρ = .pointer (some a) ∧ (loadVar t a).run C.P w = .ok (v.den ρ) w := by
  unfold aload at hv
  split at hv
  · rename_i g size hg hs
    split at hv
    · rename_i b off
      split at hv
      · rename_i blk hb
        cases hc : cut blk.cells off (width g size) with
        | none => simp [hc] at hv
        | some ys =>
          simp [hc] at hv
          obtain ⟨hl, hy⟩ := cut_spec hc
          refine ⟨⟨ρ.σ b, off, none⟩, by simp [AV.den], run_whole hg hs ρ w _ _ hl (fun j x hj => ?_) hv⟩
          have hj' : j < ys.length := (List.getElem?_eq_some_iff.1 hj).1
          rw [hy j (by omega)] at hj
          exact cell_of_block r hb hj
      · cases hv
    · rename_i b off
      cases hc : tabCells C.tab b off (width g size) with
      | none => simp [hc] at hv
      | some ys =>
        simp [hc] at hv
        obtain ⟨hl, hy⟩ := tabCells_spec ht ρ b hc
        exact ⟨⟨b, off, none⟩, by simp [AV.den], run_whole hg hs ρ w _ _ hl hy hv⟩
    · cases hv
  · cases hv
theorem oneCell_den (ρ : Env) {x : AV} (h : oneCell x = true) : (x.den ρ).oneCell' = true := by
  cases x <;> simp [oneCell] at h <;> first | rfl | skip
  rename_i v
  cases v <;> simp at h <;> rfl
theorem patch_spec {xs ys zs : List AV} {off : Nat} (h : patch xs ys off = some zs) : off + ys.length ≤ xs.length ∧ zs = xs.take off ++ ys ++ xs.drop (off + ys.length) := by
  unfold patch at h
  split at h
  · rename_i e; cases h; exact ⟨Nat.le_of_ble_eq_true e, rfl⟩
  · cases h
theorem astore_sound {C : Ctx} {lo : Nat} {ρ : Env} {h h' : AHeap} {nxt low : Nat} {w : World} (r : Rep lo ρ h nxt w) {t : TypeId} {x v : AV} (hs : astore C h nxt t x v = some (h', low)) :
    ∃ a w', x.den ρ = .pointer (some a) ∧ (storeVar t a (v.den ρ)).run C.P w = .ok () w' ∧ Rep lo ρ h' nxt w' ∧ Post ρ ρ h h' nxt nxt low w w' := by
  unfold astore at hs
  simp only at hs
  split at hs
  · rename_i b off size hsz hall
    simp only [Bool.and_eq_true, List.all_eq_true] at hall
    split at hs
    · rename_i blk hb hlen
      split at hs
      · rename_i cs hp
        rw [spine_eq, hputK_eq] at hs
        cases hs
        obtain ⟨hfit, hcs⟩ := patch_spec hp
        obtain ⟨hb, hbk⟩ := hcells_get hb
        obtain ⟨arr, e, rest, h1, h2, h3⟩ := r.cells hb hbk
        have hal : arr.size = blk.cells.length + rest.length := by rw [← Array.length_toList, h2, List.length_append, denL_length]
        have hyl : (cellsOf v).length = size := Nat.eq_of_beq_eq_true hlen
        have hst := run_storeCells_at C.P (ρ.σ low) off e (AV.denL ρ (cellsOf v)) 0 arr w h1 (by rw [denL_length]; omega) (fun u hu => by
          rw [denL_map, List.mem_map] at hu
          obtain ⟨y, hy, rfl⟩ := hu
          exact oneCell_den ρ (hall.1 y hy))
        have hnew : (arr.toList.take off ++ AV.denL ρ (cellsOf v) ++ arr.toList.drop (off + (cellsOf v).length)) = AV.denL ρ cs ++ rest := by
          rw [hcs, h2, denL_append, denL_append, List.take_append_of_le_length (by rw [denL_length]; omega), List.drop_append_of_le_length (by rw [denL_length]; omega)]
          simp [denL_map, List.append_assoc]
        simp only [Nat.add_zero, denL_length] at hst
        rw [hnew] at hst
        refine ⟨⟨ρ.σ low, off, none⟩, w.setRow (ρ.σ low) (AV.denL ρ cs ++ rest).toArray, by simp [AV.den], ?_, ?_⟩
        · have hsol : solid v = true := by
            cases v <;> first | rfl | simp [cellsOf, oneCell] at hall
          have e1 : (v.den ρ).cells.toList = AV.denL ρ (cellsOf v) := (cellsOf_den ρ v hsol).symm
          simp only [storeVar, Sem.run_bind, run_sizeT hsz, Result.andThen_ok, cellsOf_size ρ v hsol, hyl, ne_eq, not_true_eq_false, if_false, e1]
          exact hst
        · refine rep_put r hb (mem_cells hbk) cs ?_ _ rfl rfl rfl (by simp) (fun k hk => setRow_other w _ k _ hk) (AV.denL ρ cs ++ rest).toArray e rest (setRow_heap w _ arr _ e _ h1) (by simp) ?_
          · rw [hcs]
            have hcb := (r.scope low blk hb).2
            rw [okL_iff] at hcb ⊢
            intro y hy
            simp only [List.mem_append] at hy
            rcases hy with (hy | hy) | hy
            · exact hcb y (List.mem_of_mem_take hy)
            · exact (okL_iff _ _).1 hall.2 y hy
            · exact hcb y (List.mem_of_mem_drop hy)
          · have hcl : cs.length = blk.cells.length := by rw [hcs]; simp; omega
            revert h3
            cases blk.opn with
            | none => exact id
            | some k => intro h3; simp only [List.size_toArray, List.length_append, denL_length, hcl]; omega
      · cases hs
    · cases hs
  · cases hs
end Go.Ev
/- Running the program's functions on values that are known in part: every operation. -/
namespace Go.Ev
open Go.RowKit
/-- The operation does what was reckoned. -/
def Does (P : Program) (e : Operand → Value) (o : Oper) (lo : Nat) (ρ : Env) (s : St) (r : Res) (w : World) : Prop :=
  ∃ ρ' w', ((execOp e o).run P w = .ok (.value (r.1.den ρ')) w' ∨ ((execOp e o).run P w = .ok .skip w' ∧ r.1.den ρ' = undef)) ∧
    Rep lo ρ' r.2.1 r.2.2.1 w' ∧ Post ρ ρ' s.heap r.2.1 s.nxt r.2.2.1 r.2.2.2 w w'
section
variable {C : Ctx} {e : Operand → Value} {o : Oper} {lo : Nat} {ρ : Env} {s : St} {r : Res} {w : World}
theorem does_quiet (hr : Rep lo ρ s.heap s.nxt w) {v : AV} (h : quiet s v = some r) (hx : (execOp e o).run C.P w = .ok (.value (v.den ρ)) w) : Does C.P e o lo ρ s r w := by
  simp only [quiet, Option.some.injEq] at h
  subst h
  exact ⟨ρ, w, .inl hx, hr, Post.refl hr _⟩
theorem does_fresh (hr : Rep lo ρ s.heap s.nxt w) (hlo : lo ≤ w.heap.size) {v : AV} {cells : List AV} (h : fresh s cells none v = some r) (et : TypeId) (arr : Array Value) (harr : arr.toList = AV.denL ρ cells)
    (hx : (execOp e o).run C.P w = .ok (.value (v.den (ρ.with s.nxt w.heap.size 0))) { w with heap := w.heap.push (.cells arr et) }) : Does C.P e o lo ρ s r w := by
  unfold fresh at h
  split at h
  · rename_i hok
    simp only [Option.some.injEq] at h
    subst h
    obtain ⟨h1, h2⟩ := rep_new hr hlo cells hok arr et [] none 0 (by simpa using harr) rfl
    exact ⟨_, _, .inl hx, h1, h2⟩
  · cases h
theorem with_ptr : (AV.ptr s.nxt 0).den (ρ.with s.nxt w.heap.size 0) = .pointer (some ⟨w.heap.size, 0, none⟩) := by simp [AV.den, Env.with_σ]
theorem with_sl (l c : Nat) : (AV.sl s.nxt 0 l c).den (ρ.with s.nxt w.heap.size 0) = .slice (some ⟨w.heap.size, 0, none⟩) l c := by simp [AV.den, Env.with_σ]
theorem run_newRow (P : Program) (w : World) (t : TypeId) (cells : Array Value) : (newRow t cells).run P w = .ok ⟨w.heap.size, 0, none⟩ { w with heap := w.heap.push (.cells cells t) } := by
  simp [newRow]
theorem natOf_spec {v : Value} {n : Nat} (h : natOf v = some n) : ∃ k, v = .int k (n : Int) := by
  cases v <;> simp [natOf] at h
  rename_i k m
  cases m <;> simp at h
  subst h
  exact ⟨k, rfl⟩
/-! ### Filling -/
theorem place_fold (off : Nat) (cs : Array Value) : ∀ (vs : List Value) (i : Nat), off + i + vs.length ≤ cs.size → 
    (vs.zipIdx i).foldl (fun (cs : Array Value) (p : Value × Nat) => cs.setIfInBounds (off + p.2) p.1) cs = (cs.toList.take (off + i) ++ vs ++ cs.toList.drop (off + i + vs.length)).toArray := by
  intro vs
  induction vs generalizing cs with
  | nil => intro i _; simp
  | cons v vs ih =>
    intro i hl
    simp only [List.length_cons] at hl
    simp only [List.zipIdx_cons, List.foldl_cons]
    rw [ih (cs.setIfInBounds (off + i) v) (i + 1) (by simp; omega)]
    have hlt : off + i < cs.toList.length := by simp; omega
    have h1 : (cs.toList.set (off + i) v).take (off + (i + 1)) = cs.toList.take (off + i) ++ [v] := by
      rw [show off + (i + 1) = off + i + 1 by omega, List.take_succ_eq_append_getElem (by simpa using hlt), List.take_set_of_le (Nat.le_refl _)]
      simp
    have h2 : (cs.toList.set (off + i) v).drop (off + (i + 1) + vs.length) = cs.toList.drop (off + i + (vs.length + 1)) := by
      rw [List.drop_set_of_lt (by omega), show off + (i + 1) + vs.length = off + i + (vs.length + 1) by omega]
    simp only [Array.toList_setIfInBounds, h1, h2, List.length_cons]
    simp
theorem afill_spec (ρ : Env) {place : Nat → Option (Nat × Nat)} : ∀ {parts : List (Nat × AV)} {cells cs : List AV}, afill place cells parts = some cs →
    Instr.fill place (AV.denL ρ cells).toArray (parts.map fun p => (p.1, p.2.den ρ)) = some (AV.denL ρ cs).toArray
  | [], cells, cs, h => by simp [afill] at h; subst h; simp [Instr.fill]
  | (i, v) :: rest, cells, cs, h => by
    unfold afill at h
    simp only [List.map_cons, Instr.fill]
    cases hp : place i with
    | none => simp [hp] at h
    | some p =>
      obtain ⟨off, size⟩ := p
      simp only [hp] at h ⊢
      split at h
      · rename_i cs1 hb hpa
        obtain ⟨hfit, hcs⟩ := patch_spec hpa
        simp only [Bool.and_eq_true] at hb
        have hbl : (cellsOf v).length = size := Nat.eq_of_beq_eq_true hb.2
        have hsz := cellsOf_size ρ v hb.1
        have hno : ¬ ((v.den ρ).cells.size ≠ size ∨ off + (v.den ρ).cells.size > (AV.denL ρ cells).toArray.size) := by
          simp only [List.size_toArray, denL_length]; omega
        rw [if_neg (by simpa using hno)]
        have hf := place_fold off (AV.denL ρ cells).toArray (v.den ρ).cells.toList 0 (by simp [denL_length]; omega)
        rw [← Array.foldl_toList, Array.toList_zipIdx]
        simp only [Nat.add_zero] at hf
        rw [hf]
        have : ((AV.denL ρ cells).toArray.toList.take off ++ (v.den ρ).cells.toList ++ (AV.denL ρ cells).toArray.toList.drop (off + (v.den ρ).cells.toList.length)) = AV.denL ρ cs1 := by
          rw [hcs, ← cellsOf_den ρ v hb.1]
          simp [denL_map]
        rw [this]
        exact afill_spec ρ h
      · cases h
theorem fieldPlaces_spec (P : Program) : ∀ {fs : List Field} {ps : List (Nat × Nat)}, fieldPlaces P fs = some ps → fs.mapM (fun f => (P.info? f.type).map fun i => (f.offset, i.size)) = some ps
  | [], ps, h => by simp [fieldPlaces] at h; subst h; rfl
  | f :: fs, ps, h => by
    unfold fieldPlaces at h
    split at h
    · rename_i sz l hs hl
      cases h
      have := fieldPlaces_spec P hl
      unfold sizeT at hs
      cases hi : infoA P f.type with
      | none => simp [hi] at hs
      | some i => simp [hi] at hs; subst hs; simp [List.mapM_cons, info_of hi, this]
    · cases h
theorem abuild_spec (P : Program) (ρ : Env) {t : TypeId} {parts : List (Nat × AV)} {v : AV} (h : abuild P t parts = some v) :
    ∃ cells, P.built t (parts.map fun p => (p.1, p.2.den ρ)) = some cells ∧ v.den ρ = .agg cells := by
  unfold abuild at h
  split at h
  · rename_i fs z hu hz
    split at h
    · rename_i ps hps
      cases hf : afill (listGet ps) (z.cells.toList.map .pure) parts with
      | none => simp [hf] at h
      | some cs =>
        simp [hf] at h
        have hf' := afill_spec ρ hf
        rw [denL_pure, Array.toArray_toList] at hf'
        unfold zeroT at hz
        cases hi : infoA P t with
        | none => simp [hi] at hz
        | some it =>
          simp [hi] at hz
          refine ⟨(AV.denL ρ cs).toArray, ?_, by rw [← h, mkAgg_den]⟩
          have hl : listGet ps = fun x => ps[x]? := funext fun i => listGet_eq ps i
          simp only [Program.built, info_of hi, und_of hu, hz, fieldPlaces_spec P hps]
          rw [hl] at hf'
          simpa using hf'
    · cases h
  · rename_i n e' z hu hz
    split at h
    · rename_i size hs
      cases hf : afill (fun i => some (i * size, size)) (z.cells.toList.map .pure) parts with
      | none => simp [hf] at h
      | some cs =>
        simp [hf] at h
        have hf' := afill_spec ρ hf
        rw [denL_pure, Array.toArray_toList] at hf'
        unfold zeroT at hz
        unfold sizeT at hs
        cases hi : infoA P t with
        | none => simp [hi] at hz
        | some it =>
          cases hie : infoA P e' with
          | none => simp [hie] at hs
          | some ie =>
            (try simp [hi] at hz)
            simp [hie] at hs
            refine ⟨(AV.denL ρ cs).toArray, ?_, by rw [← h, mkAgg_den]⟩
            simp only [Program.built, info_of hi, und_of hu, hz, info_of hie, hs]
            exact hf'
    · cases h
  · cases h
end
end Go.Ev
/- Running the program's functions on values that are known in part: every operation. -/
namespace Go.Ev
open Go.RowKit
section
variable {C : Ctx} {e : Operand → Value} {o : Oper} {lo : Nat} {ρ : Env} {s : St} {r : Res} {w : World}
theorem zeros_den (ρ : Env) (z : List Value) : ∀ n : Nat, AV.denL ρ (zeros (z.map .pure) n) = (List.replicate n z).flatten
  | 0 => by simp [zeros, AV.denL]
  | n + 1 => by rw [zeros, denL_append, denL_pure, zeros_den ρ z n, List.replicate_succ, List.flatten_cons]
theorem flatten_get (z : List Value) (n i : Nat) (h : i < n * z.length) : (List.replicate n z).flatten[i]? = z[i % z.length]? := by
  induction n generalizing i with
  | zero => simp at h
  | succ n ih =>
    rw [List.replicate_succ, List.flatten_cons]
    by_cases hi : i < z.length
    · rw [List.getElem?_append_left hi, Nat.mod_eq_of_lt hi]
    · rw [List.getElem?_append_right (by omega), ih (i - z.length) (by rw [Nat.add_mul] at h; omega)]
      congr 1
      rw [← Nat.mod_eq_sub_mod (by omega)]
theorem made_cells (z : Array Value) (n size : Nat) (hz : z.size = size) : (Array.range (n * size)).map (fun i => z[i % z.size]!) = ((List.replicate n z.toList).flatten).toArray := by
  apply Array.ext'
  apply List.ext_getElem?
  intro i
  simp only [Array.toList_map, Array.toList_range, List.getElem?_map]
  by_cases hi : i < n * size
  · have hp : 0 < size := by
      rcases Nat.eq_zero_or_pos size with h | h
      · subst h; simp at hi
      · exact h
    have hm : i % z.size < z.size := Nat.mod_lt _ (by omega)
    rw [flatten_get z.toList n i (by simpa [hz] using hi)]
    simp [hi, hm]
  · have hlen : ((List.replicate n z.toList).flatten).length = n * size := by simp [hz]
    rw [List.getElem?_eq_none (l := (List.replicate n z.toList).flatten) (by omega)]
    simp; omega
theorem bound_spec {v : AV} {d n : Nat} (h : bound (some v) d = some n) : ∃ k, v = .pure (.int k (n : Int)) := by
  cases v <;> simp [bound] at h
  obtain ⟨k, rfl⟩ := natOf_spec h
  exact ⟨k, rfl⟩
theorem run_bound {P : Program} (w : World) (k : IntKind) {n y : Nat} (code : BoundsCode) (h : n ≤ y) : (Instr.sliceBound (.int k (n : Int)) y code).run P w = .ok n w := by
  have : (0 : Int) ≤ (n : Int) ∧ (n : Int) ≤ (y : Int) := by omega
  simp [Instr.sliceBound, asIntOf, h]
theorem run_bounds {P : Program} (w : World) (ρ : Env) (b : Bool) {len cap l h m : Nat} {lo hi mx : Option AV} (h1 : bound mx cap = some m) (h2 : bound lo 0 = some l) (h3 : bound hi len = some h)
    (hlh : l ≤ h) (hhm : h ≤ m) (hmc : m ≤ cap) (hm : mx.isSome = true → hi.isSome = true) :
    (Instr.sliceBounds b len cap (lo.map (AV.den ρ)) (hi.map (AV.den ρ)) (mx.map (AV.den ρ))).run P w = .ok (l, h, m) w := by
  cases mx with
  | none =>
    simp only [bound, Option.some.injEq] at h1
    subst h1
    cases hi with
    | none =>
      simp only [bound, Option.some.injEq] at h3
      subst h3
      cases lo with
      | none => simp only [bound, Option.some.injEq] at h2; subst h2; simp [Instr.sliceBounds]
      | some v =>
        obtain ⟨k, rfl⟩ := bound_spec h2
        simp [Instr.sliceBounds, AV.den, run_bound w k _ hlh]
    | some u =>
      obtain ⟨k2, rfl⟩ := bound_spec h3
      cases lo with
      | none => simp only [bound, Option.some.injEq] at h2; subst h2; simp [Instr.sliceBounds, AV.den, run_bound w k2 _ hhm]
      | some v =>
        obtain ⟨k, rfl⟩ := bound_spec h2
        simp [Instr.sliceBounds, AV.den, run_bound w k _ hlh, run_bound w k2 _ hhm]
  | some x =>
    obtain ⟨k1, rfl⟩ := bound_spec h1
    cases hi with
    | none => simp at hm
    | some u =>
      obtain ⟨k2, rfl⟩ := bound_spec h3
      cases lo with
      | none => simp only [bound, Option.some.injEq] at h2; subst h2; simp [Instr.sliceBounds, AV.den, run_bound w k2 _ hhm, run_bound w k1 _ hmc]
      | some v =>
        obtain ⟨k, rfl⟩ := bound_spec h2
        simp [Instr.sliceBounds, AV.den, run_bound w k _ hlh, run_bound w k2 _ hhm, run_bound w k1 _ hmc]
theorem ble_le {a b : Nat} (h : Nat.ble a b = true) : a ≤ b := Nat.le_of_ble_eq_true h
theorem blt_lt {a b : Nat} (h : Nat.blt a b = true) : a < b := by simpa [Nat.blt_eq] using h
theorem cut_addr (b off l m size : Nat) : (if m = l then (⟨b, off, none⟩ : Addr) else (⟨b, off, none⟩ : Addr).add (l * size)) = ⟨b, cutOff m l off size, none⟩ := by
  unfold cutOff
  cases e : Nat.beq m l with
  | true => rw [if_pos (Nat.eq_of_beq_eq_true e)]
  | false =>
    rw [if_neg (by intro k; subst k; simp at e), add_plain]
theorem aslice_sound (hr : Rep lo ρ s.heap s.nxt w) {t : TypeId} {x : AV} {l h m : Option AV} {r : Res} (hs : aslice C s t x l h m = some r) :
    ∃ v, quiet s v = some r ∧ (Instr.sliceAt t (x.den ρ) (l.map (AV.den ρ)) (h.map (AV.den ρ)) (m.map (AV.den ρ))).run C.P w = .ok (v.den ρ) w := by
  unfold aslice at hs
  split at hs
  · rename_i n et b off hu
    split at hs
    · rename_i mv lv size hm hl hsz
      split at hs
      · rename_i hv hh
        split at hs
        · rename_i hc
          simp only [Bool.and_eq_true, Bool.or_eq_true] at hc
          obtain ⟨⟨⟨c1, c2⟩, c3⟩, c4⟩ := hc
          refine ⟨_, hs, ?_⟩
          have hb := run_bounds (P := C.P) w ρ false hm hl hh (ble_le c1) (ble_le c2) (ble_le c3) (by cases m <;> simp_all)
          simp only [Instr.sliceAt, Sem.run_bind, run_underlying (und_of hu), Result.andThen_ok, AV.den, Instr.sureAddr, Sem.run_pure, hb, run_sizeT hsz, cut_addr]
        · cases hs
      · cases hs
    · cases hs
  · rename_i et b off len cap hu
    split at hs
    · rename_i mv lv hv size hm hl hh hsz
      split at hs
      · rename_i hc
        simp only [Bool.and_eq_true, Bool.or_eq_true] at hc
        obtain ⟨⟨⟨c1, c2⟩, c3⟩, c4⟩ := hc
        refine ⟨_, hs, ?_⟩
        have hb := run_bounds (P := C.P) w ρ true hm hl hh (ble_le c1) (ble_le c2) (ble_le c3) (by cases m <;> simp_all)
        have ha := cut_addr (ρ.σ b) off lv mv size
        simp only [Instr.sliceAt, Instr.slice, Sem.run_bind, run_underlying (und_of hu), Result.andThen_ok, AV.den, Sem.run_pure, hb, run_sizeT hsz, Option.map_some]
        split at ha <;> rename_i hml
        · rw [if_pos hml, ← ha]
        · rw [if_neg hml, ← ha]
      · cases hs
    · cases hs
  · rename_i et b off len sub hu
    split at hs
    · rename_i cs k _ hb0
      obtain ⟨hb0, hbk⟩ := hcells_get hb0
      obtain ⟨arr, e', rest, g1, g2, g3⟩ := hr.cells hb0 hbk
      have g4 : arr.size = (ρ.kk b).cap * (k + 1) := g3
      have hal : arr.size = cs.length + rest.length := by rw [← Array.length_toList, g2, List.length_append, denL_length]
      split at hs
      · rename_i lv hv size hfit hl hh hsz
        have hcap : sub + len ≤ (ρ.kk b).cap := by
          have h1 := ble_le hfit
          have h2 : (sub + len) * (k + 1) ≤ (ρ.kk b).cap * (k + 1) := by rw [← g4, hal]; exact Nat.le_trans h1 (Nat.le_add_right _ _)
          exact Nat.le_of_mul_le_mul_right h2 (by omega)
        split at hs
        · split at hs
          · rename_i hc
            simp only [Bool.and_eq_true, Bool.or_eq_true] at hc
            obtain ⟨⟨c1, c2⟩, c3⟩ := hc
            refine ⟨_, hs, ?_⟩
            have hb := run_bounds (P := C.P) (mx := none) (cap := (ρ.kk b).cap - sub) (m := (ρ.kk b).cap - sub) w ρ true rfl hl hh (ble_le c1) (by have := ble_le c2; omega) (Nat.le_refl _) (by simp)
            simp only [Option.map_none] at hb
            simp only [Instr.sliceAt, Instr.slice, Sem.run_bind, run_underlying (und_of hu), Result.andThen_ok, AV.den, Sem.run_pure, hb, run_sizeT hsz, Option.map_some, Option.map_none]
            have hsub : (ρ.kk b).cap - sub - lv = (ρ.kk b).cap - (sub + lv) := by omega
            rw [hsub]
            by_cases hml : (ρ.kk b).cap - sub = lv
            · rw [if_pos hml]
              have hl0 : lv = 0 := by
                rcases c3 with c3 | c3
                · exact Nat.eq_of_beq_eq_true c3
                · have := blt_lt c3; omega
              subst hl0
              simp
            · rw [if_neg hml, add_plain]
          · cases hs
        · rename_i mv
          split at hs
          · rename_i mn hm hhi
            split at hs
            · rename_i hc
              simp only [Bool.and_eq_true] at hc
              obtain ⟨⟨c1, c2⟩, c3⟩ := hc
              refine ⟨_, hs, ?_⟩
              have hm' : bound (some mv) ((ρ.kk b).cap - sub) = some mn := by
                obtain ⟨kk, rfl⟩ := bound_spec hm
                simpa [bound] using hm
              have hb := run_bounds (P := C.P) w ρ true hm' hl hh (ble_le c1) (ble_le c2) (by have := ble_le c3; omega) (by simpa using hhi)
              have ha := cut_addr (ρ.σ b) off lv mn size
              simp only [Option.map_some] at hb
              simp only [Instr.sliceAt, Instr.slice, Sem.run_bind, run_underlying (und_of hu), Result.andThen_ok, AV.den, Sem.run_pure, hb, run_sizeT hsz, Option.map_some]
              split at ha <;> rename_i hml
              · rw [if_pos hml, ← ha]
              · rw [if_neg hml, ← ha]
            · cases hs
          · cases hs
      · cases hs
    · cases hs
  · cases hs
end
end Go.Ev
