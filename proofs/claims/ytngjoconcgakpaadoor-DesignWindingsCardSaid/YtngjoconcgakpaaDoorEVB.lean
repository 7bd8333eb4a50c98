/- Running the program's functions on values that are known in part: one operation, one piece of code. -/
import Derived.Test.YtngjoconcgakpaaDoorEVQ
set_option linter.unusedVariables false
set_option linter.unusedSimpArgs false
set_option linter.unusedSectionVars false
set_option linter.unnecessarySimpa false
namespace Go.Ev
noncomputable section

def bytesOf (l : List Nat) : ByteArray := ⟨(l.map UInt8.ofNat).toArray⟩

def natOf : Value → Option Nat
  | .int _ (.ofNat n) => some n
  | _ => none

/-- Of a slice: the name, the place, the length, the capacity (none: open; then what is cut off it). -/
def bound (x : Option AV) (d : Nat) : Option Nat := match x with
  | none => some d
  | some (.pure v) => natOf v
  | _ => none

def aggType (P : Program) (t : TypeId) : Option Bool := match undA P t with
  | some (.struct _) => some true
  | some (.array _ _) => some true
  | some _ => some false
  | none => none

def zeroT (P : Program) (t : TypeId) : Option Value := match infoA P t with
  | some i => i.zero
  | none => none

/-- How many cells a value of a type takes that is read at a place. -/
def width (g : Bool) (size : Nat) : Nat := match g with | true => size | false => 1

/-- So many cells of a list from a place on. -/
def cut (xs : List AV) (off n : Nat) : Option (List AV) :=
  let ys := (xs.drop off).take n
  match Nat.beq ys.length n with
  | true => some ys
  | false => none

def tabCells (tab : Nat → Nat → Option Value) (g : Nat) : Nat → Nat → Option (List AV)
  | _, 0 => some []
  | o, n + 1 => match tab g o, tabCells tab g (o + 1) n with
    | some v, some vs => some (.pure v :: vs)
    | _, _ => none

/-- What is read at a place, as a value of a type. -/
def whole (agg : Bool) (xs : List AV) : Option AV := match agg, xs with
  | true, xs => some (mkAgg xs)
  | false, [x] => some x
  | _, _ => none

def aload (C : Ctx) (h : AHeap) (t : TypeId) (x : AV) : Option AV :=
  match aggType C.P t, sizeT C.P t with
  | some g, some size =>
    match x with
    | .ptr b off => match hcells h b with
      | some blk => (cut blk.cells off (width g size)).bind (whole g)
      | none => none
    | .pure (.pointer (some ⟨b, off, none⟩)) => (tabCells C.tab b off (width g size)).bind (whole g)
    | _ => none
  | _, _ => none

/-- A list with some of its cells replaced. -/
def patch (xs ys : List AV) (off : Nat) : Option (List AV) :=
  match Nat.ble (off + ys.length) xs.length with
  | true => some (xs.take off ++ ys ++ xs.drop (off + ys.length))
  | false => none

def astore (C : Ctx) (h : AHeap) (nxt : Nat) (t : TypeId) (x v : AV) : Option (AHeap × Nat) :=
  let ys := cellsOf v
  match x, sizeT C.P t, ys.all oneCell && AV.okL nxt ys with
  | .ptr b off, some size, true => match hcells h b, Nat.beq ys.length size with
    | some blk, true => match patch blk.cells ys off with
      | some cs => spine cs fun cs => hputK h b ⟨cs, blk.opn, .cells⟩ fun h => some (h, b)
      | none => none
    | _, _ => none
  | _, _, _ => none

/-- Parts laid into cells. -/
def afill (place : Nat → Option (Nat × Nat)) (cells : List AV) : List (Nat × AV) → Option (List AV)
  | [] => some cells
  | (i, v) :: rest => match place i with
    | none => none
    | some (off, size) => match Nat.beq (cellsOf v).length size, patch cells (cellsOf v) off with
      | true, some cs => afill place cs rest
      | _, _ => none

def fieldPlaces (P : Program) (fs : List Field) : Option (List (Nat × Nat)) := match fs with
  | [] => some []
  | f :: fs => match sizeT P f.type, fieldPlaces P fs with
    | some s, some l => some ((f.offset, s) :: l)
    | _, _ => none

def abuild (P : Program) (t : TypeId) (parts : List (Nat × AV)) : Option AV :=
  match undA P t, zeroT P t with
  | some (.struct fs), some z => match fieldPlaces P fs.toList with
    | some ps => (afill (listGet ps) (z.cells.toList.map .pure) parts).map mkAgg
    | none => none
  | some (.array _ e), some z => match sizeT P e with
    | some size => (afill (fun i => some (i * size, size)) (z.cells.toList.map .pure) parts).map mkAgg
    | none => none
  | _, _ => none

/-- So many cells, the cells of a zero value over and over. -/
def zeros (z : List AV) : Nat → List AV
  | 0 => []
  | n + 1 => z ++ zeros z n

abbrev Res := AV × AHeap × Nat × Nat

def quiet (s : St) (v : AV) : Option Res := some (v, s.heap, s.nxt, s.nxt)
def fresh (s : St) (cells : List AV) (opn : Option Nat) (v : AV) : Option Res := match AV.okL s.nxt cells with
  | true => some (v, (s.nxt, ⟨cells, opn, .cells⟩) :: s.heap, s.nxt + 1, s.nxt)
  | false => none

def cutOff (m l off size : Nat) : Nat := match Nat.beq m l with | true => off | false => off + l * size

def aslice (C : Ctx) (s : St) (t : TypeId) (x : AV) (lo hi mx : Option AV) : Option Res :=
  match undA C.P t, x with
  | some (.array n e), .ptr b off =>
    match bound mx n, bound lo 0, sizeT C.P e with
    | some m, some l, some size => match bound hi n with
      | some h => match Nat.ble l h && Nat.ble h m && Nat.ble m n && (mx.isNone || hi.isSome) with
        | true => quiet s (.sl b (cutOff m l off size) (h - l) (m - l))
        | false => none
      | none => none
    | _, _, _ => none
  | some (.slice e), .sl b off len cap =>
    match bound mx cap, bound lo 0, bound hi len, sizeT C.P e with
    | some m, some l, some h, some size => match Nat.ble l h && Nat.ble h m && Nat.ble m cap && (mx.isNone || hi.isSome) with
      | true => quiet s (.sl b (cutOff m l off size) (h - l) (m - l))
      | false => none
    | _, _, _, _ => none
  | some (.slice e), .slx b off len sub => match hcells s.heap b with
    | some ⟨cs, some (k + 1), _⟩ => match Nat.ble ((sub + len) * (k + 1)) cs.length, bound lo 0, bound hi len, sizeT C.P e with
      | true, some l, some h, some size => match mx with
        | none => match Nat.ble l h && Nat.ble h len && (Nat.beq l 0 || Nat.blt l len) with
          | true => quiet s (.slx b (off + l * size) (h - l) (sub + l))
          | false => none
        | some mv => match bound (some mv) 0, hi.isSome with
          | some m, true => match Nat.ble l h && Nat.ble h m && Nat.ble m len with
            | true => quiet s (.sl b (cutOff m l off size) (h - l) (m - l))
            | false => none
          | _, _ => none
      | _, _, _, _ => none
    | _ => none
  | _, _ => none

def opAlloc (C : Ctx) (s : St) (e : TypeId) : Option Res := match zeroT C.P e with
  | some z => fresh s (z.cells.toList.map .pure) none (.ptr s.nxt 0)
  | none => none

def opBuild (C : Ctx) (s : St) (t : TypeId) (parts : Array (Nat × Operand)) : Option Res :=
  match abuild C.P t (parts.toList.map fun p => (p.1, aeval s.tmps p.2)) with
  | some v => quiet s v
  | none => none

def opBuildSlice (C : Ctx) (s : St) (t : TypeId) (len : Nat) (parts : Array (Nat × Operand)) : Option Res :=
  match undA C.P t with
  | some (.slice e) => match sizeT C.P e, zeroT C.P e with
    | some size, some z => match Nat.ble (len * size) 16777216 && Nat.beq z.cells.size size with
      | true => match afill (fun i => some (i * size, size)) (zeros (z.cells.toList.map .pure) len) (parts.toList.map fun p => (p.1, aeval s.tmps p.2)) with
        | some cs => fresh s cs none (.sl s.nxt 0 len len)
        | none => none
      | false => none
    | _, _ => none
  | _ => none

def opLoad (C : Ctx) (s : St) (t : TypeId) (x : AV) : Option Res := match aload C s.heap t x with
  | some v => quiet s v
  | none => none

def opStore (C : Ctx) (s : St) (t : TypeId) (x v : AV) : Option Res := match astore C s.heap s.nxt t x v with
  | some (h, low) => some (.pure undef, h, s.nxt, Nat.min low s.nxt)
  | none => none

def opNil (s : St) (x : AV) : Option Res := match x with
  | .ptr b off => quiet s (.ptr b off)
  | .func (.func f) xs ys => quiet s (.func (.func f) xs ys)
  | _ => none

def opExtract (s : St) (x : AV) (i : Nat) : Option Res := match x with
  | .tuple xs => match listGet xs i with
    | some v => quiet s v
    | none => none
  | _ => none

def opField (C : Ctx) (s : St) (t : TypeId) (x : AV) (i : Nat) : Option Res := match undA C.P t, x with
  | some (.struct fs), .agg xs => match listGet fs.toList i with
    | some f => match aggType C.P f.type, sizeT C.P f.type with
      | some g, some size => match cut xs f.offset (width g size) with
        | some ys => match whole g ys with
          | some v => quiet s v
          | none => none
        | none => none
      | _, _ => none
    | none => none
  | _, _ => none

def opFieldAddr (C : Ctx) (s : St) (t : TypeId) (x : AV) (i : Nat) : Option Res := match undA C.P t, x with
  | some (.struct fs), .ptr b off => match listGet fs.toList i with
    | some f => match sizeT C.P f.type with
      | some (_ + 1) => quiet s (.ptr b (off + f.offset))
      | _ => none
    | none => none
  | _, _ => none

def opIndexAddr (C : Ctx) (s : St) (t : TypeId) (x ix : AV) : Option Res := match ix with
  | .pure v => match natOf v, undA C.P t, x with
    | some i, some (.array n e), .ptr b off => match sizeT C.P e, Nat.blt i n with
      | some size, true => quiet s (.ptr b (off + i * size))
      | _, _ => none
    | some i, some (.slice e), .sl b off len _ => match sizeT C.P e, Nat.blt i len with
      | some size, true => quiet s (.ptr b (off + i * size))
      | _, _ => none
    | some i, some (.slice e), .slx b off len _ => match sizeT C.P e, Nat.blt i len with
      | some size, true => quiet s (.ptr b (off + i * size))
      | _, _ => none
    | _, _, _ => none
  | _ => none

def opMakeSlice (C : Ctx) (s : St) (t : TypeId) (len cap : AV) : Option Res := match len, cap, undA C.P t with
  | .pure a, .pure b, some (.slice e) => match natOf a, natOf b, infoA C.P e with
    | some l, some c, some i => match i.zero, Nat.ble l c && Nat.ble (i.bytes * c) 140737488355328 && Nat.ble c 140737488355328 with
      | some z, true => match Nat.beq z.cells.size i.size with
        | true => fresh s (zeros (z.cells.toList.map .pure) c) none (.sl s.nxt 0 l c)
        | false => none
      | _, _ => none
    | _, _, _ => none
  | _, _, _ => none

def opLen (C : Ctx) (s : St) (c : Call) : Option Res := match c.callee with
  | .builtin .len => match c.args.toList, c.argTypes.toList with
    | [x], [t] => match undA C.P t, aeval s.tmps x with
      | some (.slice _), .bsl _ _ len _ => quiet s (.pure (.int .i64 len))
      | some (.slice _), .bslx _ _ len _ => quiet s (.pure (.int .i64 len))
      | some (.slice _), .sl _ _ len _ => quiet s (.pure (.int .i64 len))
      | some (.slice _), .slx _ _ len _ => quiet s (.pure (.int .i64 len))
      | _, _ => none
    | _, _ => none
  | _ => none

def listLike : TypeDesc → Bool
  | .slice _ => true
  | .string => true
  | _ => false

/-- What is appended: its cells, and how many elements. -/
def newCells (h : AHeap) (size : Nat) (y : AV) : Option (List AV × Nat) := match y with
  | .sl b off len _ => match hcells h b with
    | some blk => match cut blk.cells off (len * size) with
      | some ys => some (ys, len)
      | none => none
    | none => none
  | .slx b off len _ => match hcells h b with
    | some blk => match cut blk.cells off (len * size) with
      | some ys => some (ys, len)
      | none => none
    | none => none
  | .pure (.slice none len _) => match len with
    | 0 => some ([], 0)
    | _ => none
  | .pure (.string s) => match Nat.beq size 1 with
    | true => some (s.data.toList.map (fun b => .pure (.int .u8 b.toNat)), s.data.toList.length)
    | false => none
  | _ => none

/-- A new block for what was there and what is appended. -/
def appGrow (s : St) (size need : Nat) (cells : List AV) (heap : AHeap) (low : Nat) : Option Res :=
  some (.slx s.nxt 0 need 0, (s.nxt, ⟨cells, some size, .cells⟩) :: heap, s.nxt + 1, Nat.min low s.nxt)

def appTo (s : St) (size bytes : Nat) (x : AV) (ys : List AV) (n : Nat) : Option Res :=
  match AV.okL s.nxt ys && ys.all oneCell with
  | true => match x with
    | .pure (.slice none l c) => match l, c with
      | 0, 0 => match n with
        | 0 => quiet s x
        | n + 1 => match Nat.ble ((n + 1) * bytes) 140737488355328 && Nat.ble (n + 1) 4611686018427387904 with
          | true => spine ys fun ys => appGrow s size (n + 1) ys s.heap s.nxt
          | false => none
      | _, _ => none
    | .sl b off len cap => match hcells s.heap b with
      | some blk => match Nat.ble (len + n) cap with
        | true => match patch blk.cells ys (off + len * size) with
          | some cs => spine cs fun cs => hputK s.heap b ⟨cs, blk.opn, .cells⟩ fun h => some (.sl b off (len + n) cap, h, s.nxt, Nat.min b s.nxt)
          | none => none
        | false => match cut blk.cells off (len * size), Nat.ble ((len + n) * bytes) 140737488355328 && Nat.ble (len + n) 4611686018427387904 with
          | some old, true => spine (old ++ ys) fun cs => appGrow s size (len + n) cs s.heap s.nxt
          | _, _ => none
      | none => none
    | .slx b off len sub => match off, sub, hcells s.heap b with
      | 0, 0, some ⟨cs, some k, _⟩ => match cut cs 0 (len * size), Nat.ble ((len + n) * bytes) 140737488355328 && Nat.ble (len + n) 4611686018427387904 && Nat.beq k size with
        | some old, true => spine (old ++ ys) fun cs => appGrow s size (len + n) cs (hdel s.heap b) b
        | _, _ => none
      | _, _, _ => none
    | _ => none
  | false => none

def opAppend (C : Ctx) (s : St) (c : Call) : Option Res := match c.args.toList, c.argTypes.toList with
  | [x, y], [t, u] => match undA C.P t, undA C.P u with
    | some (.slice e), some du => match listLike du, infoA C.P e with
      | true, some i => match i.zero with
        | some z => match Nat.beq z.cells.size i.size, newCells s.heap i.size (aeval s.tmps y) with
          | true, some (ys, n) => appTo s i.size i.bytes (aeval s.tmps x) ys n
          | _, _ => none
        | none => none
      | _, _ => none
    | _, _ => none
  | _, _ => none

def opCall (C : Ctx) (s : St) (c : Call) : Option Res := match c.callee with
  | .builtin .append => opAppend C s c
  | _ => opLen C s c

/-- The bytes that cells hold. -/
def byteList : List AV → Option (List Int)
  | [] => some []
  | x :: xs => match x with
    | .pure (.int .u8 n) => match byteList xs with
      | some ns => some (n :: ns)
      | none => none
    | _ => none

def opString (s : St) (b off len : Nat) : Option Res := match hcells s.heap b with
  | some blk => match cut blk.cells off len with
    | some ys => match byteList ys with
      | some ns => quiet s (.pure (.string (bytesOf (ns.map Int.toNat))))
      | none => none
    | none => none
  | none => none

def opConvert (C : Ctx) (s : St) (src dst : TypeId) (x : AV) : Option Res := match undA C.P src, undA C.P dst with
  | some (.slice e), some .string => match undA C.P e, x with
    | some (.int .u8), .sl b off len _ => opString s b off len
    | some (.int .u8), .slx b off len _ => opString s b off len
    | _, _ => none
  | _, _ => none

/-- A value with own addresses held against nil. -/
def nilPair (d : TypeDesc) (x y : AV) : Bool := match d with
  | .slice _ => match x, y with
    | .sl _ _ _ _, .pure (.slice none _ _) => true
    | .slx _ _ _ _, .pure (.slice none _ _) => true
    | .bsl _ _ _ _, .pure (.slice none _ _) => true
    | .bslx _ _ _ _, .pure (.slice none _ _) => true
    | .pure (.slice none _ _), .sl _ _ _ _ => true
    | .pure (.slice none _ _), .slx _ _ _ _ => true
    | .pure (.slice none _ _), .bsl _ _ _ _ => true
    | .pure (.slice none _ _), .bslx _ _ _ _ => true
    | _, _ => false
  | .pointer _ => match x, y with
    | .ptr _ _, .pure (.pointer none) => true
    | .pure (.pointer none), .ptr _ _ => true
    | _, _ => false
  | .func _ _ _ => match x, y with
    | .func _ _ _, .pure .nilFunc => true
    | .yld _, .pure .nilFunc => true
    | .pure .nilFunc, .func _ _ _ => true
    | .pure .nilFunc, .yld _ => true
    | _, _ => false
  | _ => false

def opNilEq (C : Ctx) (s : St) (op : BinOp) (t : TypeId) (x y : AV) : Option Res := match undA C.P t with
  | some d => match nilPair d x y with
    | true => match op with
      | .eql => quiet s (.pure (.bool false))
      | .neq => quiet s (.pure (.bool true))
      | _ => none
    | false => none
  | none => none

/-- The operations that may bear own addresses. -/
def aopOwn (C : Ctx) (s : St) (o : Oper) : Option Res :=
  match o.op with
  | .move x => quiet s (aeval s.tmps x)
  | .assign x => quiet s (aeval s.tmps x)
  | .alloc e => opAlloc C s e
  | .box _ x => fresh s (cellsOf (aeval s.tmps x)) none (.ptr s.nxt 0)
  | .build t parts => opBuild C s t parts
  | .buildSlice t len parts => opBuildSlice C s t len parts
  | .load t a => opLoad C s t (aeval s.tmps a)
  | .store t a x => opStore C s t (aeval s.tmps a) (aeval s.tmps x)
  | .nilCheck x => opNil s (aeval s.tmps x)
  | .makeFunc fn xs ys => quiet s (mkFunc fn (xs.toList.map (aeval s.tmps)) (ys.toList.map (aeval s.tmps)))
  | .extract x i => opExtract s (aeval s.tmps x) i
  | .field t x i => opField C s t (aeval s.tmps x) i
  | .fieldAddr t x i => opFieldAddr C s t (aeval s.tmps x) i
  | .indexAddr t x ix => opIndexAddr C s t (aeval s.tmps x) (aeval s.tmps ix)
  | .slice t x lo hi mx => aslice C s t (aeval s.tmps x) (lo.map (aeval s.tmps)) (hi.map (aeval s.tmps)) (mx.map (aeval s.tmps))
  | .makeSlice t len cap => opMakeSlice C s t (aeval s.tmps len) (aeval s.tmps cap)
  | .call c => opCall C s c
  | .binOp op t x y _ => opNilEq C s op t (aeval s.tmps x) (aeval s.tmps y)
  | .convert src dst x => opConvert C s src dst (aeval s.tmps x)
  | _ => none

def allPure (tmps : List AV) : List Operand → Bool
  | [] => true
  | x :: xs => match aeval tmps x with
    | .pure _ => allPure tmps xs
    | _ => false

/-- An operation on values without own addresses, by the model's own words. -/
def slow (C : Ctx) (s : St) (o : Oper) : Option Res := match allPure s.tmps o.op.operands.toList with
  | true => match still C.P (execOp (penv s.tmps) o) with
    | some (.value v) => quiet s (.pure v)
    | _ => aopOwn C s o
  | false => aopOwn C s o

def fastInt (op : BinOp) (a b : Int) : Option Value := match op with
  | .add => some (.int .i64 (IntKind.i64.wrap (a + b)))
  | .sub => some (.int .i64 (IntKind.i64.wrap (a - b)))
  | .mul => some (.int .i64 (IntKind.i64.wrap (a * b)))
  | .eql => some (.bool (a == b))
  | .neq => some (.bool (a != b))
  | .lss => some (.bool (decide (a < b)))
  | .leq => some (.bool (decide (a ≤ b)))
  | .gtr => some (.bool (decide (a > b)))
  | .geq => some (.bool (decide (a ≥ b)))
  | _ => none

def opEq (C : Ctx) (s : St) (o : Oper) (op : BinOp) (t : TypeId) (xs ys : Array Value) : Option Res := match op with
  | .eql => match aeqTop C.P t xs ys with
    | some b => quiet s (.pure (.bool b))
    | none => slow C s o
  | .neq => match aeqTop C.P t xs ys with
    | some b => quiet s (.pure (.bool (!b)))
    | none => slow C s o
  | _ => slow C s o

def opBin (C : Ctx) (s : St) (o : Oper) (op : BinOp) (t : TypeId) (x y : AV) : Option Res := match x, y with
  | .pure (.agg xs), .pure (.agg ys) => opEq C s o op t xs ys
  | .pure (.int .i64 a), .pure (.int .i64 b) => match fastInt op a b with
    | some v => quiet s (.pure v)
    | none => slow C s o
  | _, _ => slow C s o

def unlessPure {α : Type} (x : AV) (a b : α) : α := match x with
  | .pure _ => b
  | _ => a

/-- An operation that is no call of a function. -/
def aop (C : Ctx) (s : St) (o : Oper) : Option Res :=
  match o.op with
  | .move x => quiet s (aeval s.tmps x)
  | .assign x => quiet s (aeval s.tmps x)
  | .alloc e => opAlloc C s e
  | .box _ x => fresh s (cellsOf (aeval s.tmps x)) none (.ptr s.nxt 0)
  | .load t a => opLoad C s t (aeval s.tmps a)
  | .store t a x => opStore C s t (aeval s.tmps a) (aeval s.tmps x)
  | .buildSlice t len parts => opBuildSlice C s t len parts
  | .makeSlice t len cap => opMakeSlice C s t (aeval s.tmps len) (aeval s.tmps cap)
  | .fieldAddr t x i => unlessPure (aeval s.tmps x) (opFieldAddr C s t (aeval s.tmps x) i) (slow C s o)
  | .indexAddr t x ix => unlessPure (aeval s.tmps x) (opIndexAddr C s t (aeval s.tmps x) (aeval s.tmps ix)) (slow C s o)
  | .binOp op t x y _ => opBin C s o op t (aeval s.tmps x) (aeval s.tmps y)
  | .select _ _ => none
  | _ => slow C s o

/-- The function that a call enters, and its arguments. -/
def callee (tmps : List AV) (c : Call) : Option (FuncId × List AV) :=
  match c.callee with
  | .value x => match aeval tmps x with
    | .pure (.func (.func f) us vs) => some (f, us.toList.map .pure ++ c.args.toList.map (aeval tmps) ++ vs.toList.map .pure)
    | .func (.func f) us vs => some (f, us ++ c.args.toList.map (aeval tmps) ++ vs)
    | _ => none
  | _ => none

/-- Binding edges. -/
def depsOf (o : Oper) : List Nat := o.after.toList.filterMap fun e => match Region.binds .any e with | true => some e.on | false => none

/-- For each operation those that come before it. -/
def before (ops : List Oper) (acc : List (List Nat)) : List (List Nat) := match ops with
  | [] => acc
  | o :: ops => before ops (acc ++ [(List.range acc.length).filter fun j => (depsOf o).any fun d => Nat.beq d j || (acc.getD d []).any (Nat.beq j)])

def isStore : Op → Bool
  | .store _ _ _ => true
  | _ => false

/-- Where the first store stands. -/
def firstStore : List Oper → Nat
  | [] => 0
  | o :: os => match isStore o.op with
    | true => 0
    | false => firstStore os + 1

/-- Each operation of a region that draws its order sees what those before it have written, and no two write the same. -/
def baseOk (ops : Array Oper) : Bool :=
  let T := before ops.toList []
  (List.range ops.size).all fun i => match ops[i]?, T[i]? with
    | some o, some anc =>
      let U := o.looksAt ops
      ((depsOf o).all fun d => Nat.blt d i) &&
      (match o.op with | .select _ _ => false | _ => true) &&
      (List.range ops.size).all fun j => match ops[j]? with
        | some q => match q.dst with
          | some d => (!(U.any (Nat.beq d)) || anc.any (Nat.beq j) || (T.getD j []).any (Nat.beq i)) && (Nat.beq i j || match o.dst with | some e => !Nat.beq d e | none => true)
          | none => true
        | none => false
    | _, _ => false

/-- From the first store on all comes in its order. -/
def lastOk (ops : Array Oper) : Bool :=
  let T := before ops.toList []
  (List.range ops.size).all fun i => Nat.blt i (firstStore ops.toList) || Nat.beq (T.getD i []).length i

/-- Where what comes in its order begins. -/
def tailFrom (T : List (List Nat)) : Nat → Nat
  | 0 => 0
  | m + 1 => match Nat.beq (T.getD m []).length m with
    | true => tailFrom T m
    | false => m + 1

def splitOf (ops : Array Oper) : Nat := match lastOk ops with
  | true => tailFrom (before ops.toList []) (firstStore ops.toList)
  | false => firstStore ops.toList

def drawOk (ops : Array Oper) : Bool := baseOk ops && lastOk ops

/-- An operation that neither reads nor turns the world. -/
def quietOp : Op → Bool
  | .move _ => true
  | .assign _ => true
  | .extract _ _ => true
  | _ => false

def bare (o : Oper) : Bool := match o.guard with
  | none => true
  | some _ => false

/-- Ahead of the first store quiet operations that it does not wait for; behind it all comes in its order. -/
def lateOk (ops : Array Oper) : Bool :=
  let k := firstStore ops.toList
  let T := before ops.toList []
  baseOk ops && Nat.blt k ops.size && (List.range ops.size).all fun i => match ops[i]? with
    | some o => match Nat.blt i k with
      | true => (T.getD k []).any (Nat.beq i) || (quietOp o.op && bare o)
      | false => match Nat.beq i k with
        | true => bare o && (match o.dst with | none => true | some _ => false)
        | false => Nat.beq (T.getD i []).length i
    | none => false

def okCode : Code → Bool
  | .seq a b => okCode a && okCode b
  | .cond _ x y => okCode x && okCode y
  | .block _ c => okCode c
  | .loop c => okCode c
  | .region _ ops true => drawOk ops || lateOk ops
  | .rangeFunc _ _ a b => okCode a && okCode b
  | .region _ ops false => ops.all fun o => match o.op with | .select _ _ => false | _ => true
  | .skip => true
  | .exit _ => true
  | .ret => true
  | _ => false

def setT (tmps : List AV) (dst : Option Tmp) (v : AV) : List AV := match dst with
  | some d => tmps.set d v
  | none => tmps

def setTK {α : Type} (tmps : List AV) (dst : Option Tmp) (v : AV) (k : List AV → Option α) : Option α := match dst with
  | some d => setK tmps d v k
  | none => k tmps

/-- Is the operation wanted? A guard that is not decided takes its answer off the oracle. -/
def guardOf (C : Ctx) (f : FuncId) (ops : Array Oper) (tmps : List AV) (ora : List Bool) (o : Oper) : Option (Bool × List Bool × List (Bool × Bool)) :=
  match o.guard with
  | none => some (true, ora, [])
  | some (j, want) => match (listGet ops.toList j).bind (·.dst) with
    | some t => match listGet tmps t with
      | some (.pure (.bool b)) => match C.sym f t with
        | true => match ora with
          | q :: ora => some (q == want, ora, [(b, q)])
          | [] => none
        | false => some (b == want, ora, [])
      | some (.any _) => none
      | _ => some (false, ora, [])
    | none => some (false, ora, [])

inductive Job where
  | code (f : FuncId) (c : Code)
  | loop (f : FuncId) (c : Code)
  | ops (f : FuncId) (ops : Array Oper) (todo : List Oper)
  | draw (f : FuncId) (ops : Array Oper) (todo : List Oper) (base : Nat) (seen : List AHeap) (acc : List AHeap)
  | op (f : FuncId) (o : Oper)
  | enter (f : FuncId) (args : List AV)

/-- What the operations that come before one have made, as it sees it. -/
def seenBy (seen : List AHeap) : List Nat → AHeap
  | [] => []
  | j :: js => (seen.getD j []) ++ seenBy seen js

def aresult (C : Ctx) (tmps : List AV) (h : AHeap) : ResultVar → Option AV
  | .tmp t => some (slot tmps t)
  | .cell a t => match slot tmps a with
    | .ptr b off => aload C h t (.ptr b off)
    | _ => none

def aresults (C : Ctx) (tmps : List AV) (h : AHeap) : List ResultVar → Option (List AV)
  | [] => some []
  | r :: rs => match aresult C tmps h r, aresults C tmps h rs with
    | some v, some vs => some (v :: vs)
    | _, _ => none

def resultOf (vs : List AV) : AV := match vs with
  | [v] => v
  | vs => mkTuple vs

def isOff : AX → Bool
  | .normal => true
  | .ret => true
  | _ => false

def withCond (b q : Bool) : Option Out → Option Out
  | some ⟨x, s2, l2, ⟨c2, k2⟩⟩ => some ⟨x, s2, l2, ⟨(b, q) :: c2, k2⟩⟩
  | none => none

def behind (low : Nat) (l : List (Bool × Bool)) (k : List Ask) : Option Out → Option Out
  | some ⟨x, s2, l2, ⟨c2, k2⟩⟩ => some ⟨x, s2, Nat.min low l2, ⟨l ++ c2, k ++ k2⟩⟩
  | none => none

abbrev Rec := Job → St → Option Out

def stay (x : AX) : St → Option Out
  | ⟨tm, h, nx, ora, rs⟩ => some ⟨x, ⟨tm, h, nx, ora, rs⟩, nx, ⟨[], []⟩⟩

def goSeq (R : Rec) (f : FuncId) (b : Code) : Option Out → Option Out
  | some ⟨.normal, s1, l1, ⟨c1, k1⟩⟩ => behind l1 c1 k1 (R (.code f b) s1)
  | r => r

def goLoop (R : Rec) (f : FuncId) (c : Code) : Option Out → Option Out
  | some ⟨.normal, s1, l1, ⟨c1, k1⟩⟩ => behind l1 c1 k1 (R (.loop f c) s1)
  | r => r

def pickCode (b : Bool) (x y : Code) : Code := match b with | true => x | false => y

def asked (C : Ctx) (f : FuncId) : Operand → Bool
  | .tmp t => C.sym f t
  | _ => false

def goCond (C : Ctx) (R : Rec) (f : FuncId) (c : Operand) (x y : Code) : St → Option Out
  | ⟨tm, h, nx, ora, rs⟩ => match aeval tm c with
    | .pure (.bool b) => match asked C f c with
      | true => match ora with
        | q :: ora => withCond b q (R (.code f (pickCode q x y)) ⟨tm, h, nx, ora, rs⟩)
        | [] => none
      | false => R (.code f (pickCode b x y)) ⟨tm, h, nx, ora, rs⟩
    | _ => none

def goBlock (id : Nat) : Option Out → Option Out
  | some ⟨.exit j, s1, l1, g1⟩ => match Nat.beq j id with
    | true => some ⟨.normal, s1, l1, g1⟩
    | false => some ⟨.exit j, s1, l1, g1⟩
  | r => r

/-- Behind what may come in any order, what comes last. -/
def goTail (R : Rec) (f : FuncId) (ops : Array Oper) (m : Nat) : Option Out → Option Out
  | some ⟨.normal, s1, l1, ⟨c1, k1⟩⟩ => behind l1 c1 k1 (R (.ops f ops (ops.toList.drop m)) s1)
  | _ => none

def frOK (nx : Nat) (fr : AFrame) : Bool := (match fr.rnd with | none => true | some l => Nat.blt l nx) && fr.marks.all fun d => Nat.blt d nx

/-- The function that a value is, with what comes before and behind its arguments. -/
def funOf : AV → Option (FuncId × List AV × List AV)
  | .pure (.func (.func g) us vs) => some (g, us.toList.map .pure, vs.toList.map .pure)
  | .func (.func g) us vs => some (g, us, vs)
  | _ => none

/-- What becomes of the statement once the function that is ranged over has returned. -/
def rangeEnd (l : Nat) (tm : List AV) (fr : AFrame) : Option Out → Option Out
  | some ⟨.val _, ⟨_, h1, nx1, ora1, rs1⟩, l1, g1⟩ => match hget h1 l with
    | some ⟨_, _, .loop r⟩ => match r.st with
      | .ready => some ⟨.normal, ⟨tm, hdel h1 l, nx1, ora1, ⟨rs1.vals, fr⟩⟩, l1, g1⟩
      | .ret => some ⟨.ret, ⟨tm, hdel h1 l, nx1, ora1, ⟨rs1.vals, fr⟩⟩, l1, g1⟩
      | .exit id => some ⟨.exit id, ⟨tm, hdel h1 l, nx1, ora1, ⟨rs1.vals, fr⟩⟩, l1, g1⟩
      | .busy => none
    | _ => none
  | _ => none

def noFrame : AFrame := ⟨none, []⟩

def rangeRun (R : Rec) (f : FuncId) (q : FuncId × List AV × List AV) (ps : Array Tmp) (asg body : Code) (tm : List AV) (h : AHeap) (l : Nat) (ora : List Bool) (vals : List Value) (fr : AFrame) : Option Out :=
  rangeEnd l tm fr (R (.enter q.1 (q.2.1 ++ [.yld l] ++ q.2.2)) ⟨[], (l, ⟨tm, none, .loop ⟨f, ps, asg, body, .ready⟩⟩) :: h, l + 1, ora, ⟨vals, noFrame⟩⟩)

def goRange (C : Ctx) (R : Rec) (f : FuncId) (g : Operand) (ps : Array Tmp) (asg body : Code) : St → Option Out
  | ⟨tm, h, nx, ora, rs⟩ => match funOf (aeval tm g) with
    | some q => match (match listGet C.P.funcs.toList q.1 with | some fn => fn.body.isSome | none => false) with
      | true => match rs.fr.rnd with
        | none => withNat (nx + 1) fun l => rangeRun R f q ps asg body tm ((nx, ⟨[], none, .dfr⟩) :: h) l ora rs.vals ⟨none, nx :: rs.fr.marks⟩
        | some l0 => match hget h l0 with
          | some ⟨_, _, .loop _⟩ => rangeRun R f q ps asg body tm h nx ora rs.vals rs.fr
          | _ => none
      | false => none
    | none => none

def goCode (C : Ctx) (R : Rec) (f : FuncId) (c : Code) (s : St) : Option Out := match c with
  | .rangeFunc g ps asg body => goRange C R f g ps asg body s
  | .skip => stay .normal s
  | .seq a b => goSeq R f b (R (.code f a) s)
  | .cond c x y => goCond C R f c x y s
  | .block id body => goBlock id (R (.code f body) s)
  | .loop body => match s with
    | ⟨tm, h, nx, ora, rs⟩ => match C.lp f body tm h nx with
      | some ⟨o, tm1, h1, nx1, low⟩ => match AV.okL nx1 tm1 && Nat.ble nx nx1 && frOK nx rs.fr with
        | true => match o with
          | none => some ⟨.ret, ⟨tm1, h1, nx1, ora, rs⟩, low, ⟨[], [.loop body ⟨tm, h, nx, ora, rs⟩ .ret ⟨tm1, h1, nx1, ora, rs⟩ low]⟩⟩
          | some id => some ⟨.exit id, ⟨tm1, h1, nx1, ora, rs⟩, low, ⟨[], [.loop body ⟨tm, h, nx, ora, rs⟩ (.exit id) ⟨tm1, h1, nx1, ora, rs⟩ low]⟩⟩
        | false => none
      | none => R (.loop f body) ⟨tm, h, nx, ora, rs⟩
  | .exit id => stay (.exit id) s
  | .ret => stay .ret s
  | .region _ ops draw => match draw with
    | false => R (.ops f ops ops.toList) s
    | true => goTail R f ops (splitOf ops) (R (.draw f ops (ops.toList.take (splitOf ops)) s.nxt [] []) s)
  | _ => none

def goOp1 (R : Rec) (f : FuncId) (ops : Array Oper) (rest : List Oper) (tm : List AV) (dst : Option Tmp) (l : List (Bool × Bool)) : Option Out → Option Out
  | some ⟨.val v, ⟨_, h1, nx1, ora2, rs1⟩, l1, ⟨c1, k1⟩⟩ => setTK tm dst v fun tm1 => behind l1 (l ++ c1) k1 (R (.ops f ops rest) ⟨tm1, h1, nx1, ora2, rs1⟩)
  | _ => none

def goOps (C : Ctx) (R : Rec) (f : FuncId) (ops : Array Oper) (todo : List Oper) : St → Option Out
  | ⟨tm, h, nx, ora, rs⟩ => match todo with
    | [] => stay .normal ⟨tm, h, nx, ora, rs⟩
    | o :: rest => match guardOf C f ops tm ora o with
      | none => none
      | some (false, ora1, l) => setTK tm o.dst (.pure undef) fun tm1 => behind nx l [] (R (.ops f ops rest) ⟨tm1, h, nx, ora1, rs⟩)
      | some (true, ora1, l) => goOp1 R f ops rest tm o.dst l (R (.op f o) ⟨tm, h, nx, ora1, rs⟩)

/-- Which names an operation of a region that draws its order may hand on. -/
def mayName (base nx : Nat) (mine : AHeap) (n : Nat) : Bool := match Nat.blt n base with
  | true => true
  | false => match Nat.ble nx n with
    | true => true
    | false => match hget mine n with
      | some _ => true
      | none => false

def heapWithin (p : Nat → Bool) : AHeap → Bool
  | [] => true
  | (_, b) :: h => AV.withinL p b.cells && heapWithin p h

def goDraw1 (R : Rec) (f : FuncId) (ops : Array Oper) (todo : List Oper) (base : Nat) (seen acc : List AHeap) (mine : AHeap) (tm : List AV) (h : AHeap) (nx : Nat) (dst : Option Tmp) (l : List (Bool × Bool)) : Option Out → Option Out
  | some ⟨.val v, ⟨_, h1, nx1, ora2, rs1⟩, l1, ⟨c1, k1⟩⟩ => match Nat.ble nx l1 && v.within (mayName base nx mine) && heapWithin (mayName base nx mine) (hfrom h1 nx) with
    | true => setTK tm dst v fun tm1 => behind nx (l ++ c1) k1 (R (.draw f ops todo base (seen ++ [hfrom h1 nx ++ mine]) (acc ++ [hfrom h1 nx])) ⟨tm1, h, nx1, ora2, rs1⟩)
    | false => none
  | _ => none

def goDraw (C : Ctx) (R : Rec) (f : FuncId) (ops : Array Oper) (todo : List Oper) (base : Nat) (seen acc : List AHeap) : St → Option Out
  | ⟨tm, h, nx, ora, rs⟩ => match todo with
    | [] => stay .normal ⟨tm, acc.flatten ++ h, nx, ora, rs⟩
    | o :: todo => match isStore o.op with
     | true => match o.dst with
       | none => behind nx [] [] (R (.draw f ops todo base (seen ++ [[]]) (acc ++ [[]])) ⟨tm, h, nx, ora, rs⟩)
       | some _ => none
     | false => match guardOf C f ops tm ora o with
      | none => none
      | some (false, ora1, l) => setTK tm o.dst (.pure undef) fun tm1 => behind nx l [] (R (.draw f ops todo base (seen ++ [[]]) (acc ++ [[]])) ⟨tm1, h, nx, ora1, rs⟩)
      | some (true, ora1, l) => goDraw1 R f ops todo base seen acc (seenBy seen (depsOf o)) tm h nx o.dst l (R (.op f o) ⟨tm, seenBy seen (depsOf o) ++ h, nx, ora1, rs⟩)

def backTo (tm : List AV) : Option Out → Option Out
  | some ⟨x, ⟨_, h1, nx1, ora1, rs1⟩, l1, g1⟩ => some ⟨x, ⟨tm, h1, nx1, ora1, rs1⟩, l1, g1⟩
  | none => none

def isDefer : Op → Bool
  | .defer _ => true
  | _ => false

def goPlain (C : Ctx) (o : Oper) : St → Option Out
  | ⟨tm, h, nx, ora, rs⟩ => match isDefer o.op with
   | true => none
   | false => match aop C ⟨tm, h, nx, ora, rs⟩ o with
    | some (v, h1, nx1, low) => withNat nx1 fun nx1 => forceV v fun v => match v.ok nx1 && Nat.ble nx nx1 with
      | true => some ⟨.val v, ⟨tm, h1, nx1, ora, rs⟩, low, ⟨[], []⟩⟩
      | false => none
    | none => none

/-- A quotient or a remainder: what is divided by must not be 0. -/
def divOf (tm : List AV) (o : Oper) : Option (Value × Bool) := match o.op with
  | .binOp .quo _ x y _ => match aeval tm x, aeval tm y with
    | .pure (.int .i64 a), .pure (.int .i64 b) => some (.int .i64 (IntKind.i64.wrap (a.tdiv b)), b == 0)
    | _, _ => none
  | .binOp .rem _ x y _ => match aeval tm x, aeval tm y with
    | .pure (.int .i64 a), .pure (.int .i64 b) => some (.int .i64 (a.tmod b), b == 0)
    | _, _ => none
  | _ => none

def goDiv (C : Ctx) (o : Oper) : St → Option Out
  | ⟨tm, h, nx, ora, rs⟩ => match divOf tm o with
    | some (v, b) => some ⟨.val (.pure v), ⟨tm, h, nx, ora, rs⟩, nx, ⟨[(b, false)], []⟩⟩
    | none => goPlain C o ⟨tm, h, nx, ora, rs⟩

def goCall (R : Rec) (c : Call) : St → Option Out
  | ⟨tm, h, nx, ora, rs⟩ => match callee tm c with
    | some (g, vs) => backTo tm (R (.enter g vs) ⟨[], h, nx, ora, rs⟩)
    | none => none

/-- A choice by a truth that may not be decided. -/
def goPick (C : Ctx) (f : FuncId) (o : Oper) (c x y : Operand) : St → Option Out
  | ⟨tm, h, nx, ora, rs⟩ => match asked C f c with
    | false => goPlain C o ⟨tm, h, nx, ora, rs⟩
    | true => match aeval tm c, ora with
      | .pure (.bool b), q :: ora => match q with
        | true => forceV (aeval tm x) fun v => match v.ok nx with
          | true => some ⟨.val v, ⟨tm, h, nx, ora, rs⟩, nx, ⟨[(b, true)], []⟩⟩
          | false => none
        | false => forceV (aeval tm y) fun v => match v.ok nx with
          | true => some ⟨.val v, ⟨tm, h, nx, ora, rs⟩, nx, ⟨[(b, false)], []⟩⟩
          | false => none
      | _, _ => none

/-- Arguments put into the parameters. -/
def setMany {α : Type} (tm : List AV) : List (Tmp × AV) → (List AV → Option α) → Option α
  | [], k => k tm
  | (t, v) :: ps, k => setK tm t v fun tm => setMany tm ps k

def jumpOf : AX → Option (RState × Bool)
  | .normal => some (.ready, true)
  | .ret => some (.ret, false)
  | .exit id => some (.exit id, false)
  | .val _ => none

def yieldOf (tm : List AV) (c : Call) : Option (Nat × List AV) := match c.callee with
  | .value x => match aeval tm x with
    | .yld l => some (l, c.args.toList.map (aeval tm))
    | _ => none
  | _ => none

def yieldEnd (l : Nat) (tm : List AV) (fr : AFrame) (l2 : Nat) (c2 : List (Bool × Bool)) (k2 : List Ask) : Option Out → Option Out
  | some ⟨x, ⟨_, h3, nx3, ora3, rs3⟩, l3, ⟨c3, k3⟩⟩ => match hget h3 l, jumpOf x with
    | some ⟨cs3, on3, .loop r3⟩, some (j, b) => match r3.st with
      | .busy => hputK h3 l ⟨cs3, on3, .loop ⟨r3.f, r3.ps, r3.asg, r3.body, j⟩⟩ fun h3 => some ⟨.val (.pure (.bool b)), ⟨tm, h3, nx3, ora3, ⟨rs3.vals, fr⟩⟩, Nat.min l2 (Nat.min l l3), ⟨c2 ++ c3, k2 ++ k3⟩⟩
      | _ => none
    | _, _ => none
  | none => none

def yieldMid (R : Rec) (l : Nat) (r : ARec) (tm : List AV) (fr : AFrame) : Option Out → Option Out
  | some ⟨.normal, ⟨tm2, h2, nx2, ora2, rs2⟩, l2, ⟨c2, k2⟩⟩ => match hget h2 l with
    | some ⟨cs2, on2, .loop r2⟩ => match r2.st with
      | .ready => hputK h2 l ⟨cs2, on2, .loop ⟨r2.f, r2.ps, r2.asg, r2.body, .busy⟩⟩ fun h2 => yieldEnd l tm fr l2 c2 k2 (R (.code r.f r.body) ⟨tm2, h2, nx2, ora2, rs2⟩)
      | _ => none
    | _ => none
  | _ => none

def goYield (R : Rec) (l : Nat) (args : List AV) : St → Option Out
  | ⟨tm, h, nx, ora, rs⟩ => match hget h l with
    | some ⟨cs, _, .loop r⟩ => match r.st, Nat.beq args.length r.ps.size && okCode r.asg && okCode r.body with
      | .ready, true => setMany cs (r.ps.toList.zip args) fun tm1 => match AV.okL nx tm1 with
        | true => yieldMid R l r tm rs.fr (R (.code r.f r.asg) ⟨tm1, h, nx, ora, ⟨rs.vals, ⟨some l, []⟩⟩⟩)
        | false => none
      | _, _ => none
    | _ => none

/-- A truth that is not decided. -/
def fact (P : Prop) : Bool := @decide P (Classical.propDecidable P)

/-- A list with some of its items replaced. -/
def splice (L : List Value) (off : Nat) (vs : List Value) : List Value := L.take off ++ vs ++ L.drop (off + vs.length)

/-- So many zero values, as cells. -/
def manyZeros (z : List Value) (n : Nat) : List Value := (List.replicate n z).flatten

def bigOf (h : AHeap) (n : Nat) : Option (List Value × Option Nat) := match hget h n with
  | some b => match b.kind with
    | .big L => some (L, b.opn)
    | _ => none
  | none => none

def outB (tm : List AV) (h : AHeap) (nx : Nat) (ora : List Bool) (rs : Rs) (v : AV) (low : Nat) (p : Prop) : Option Out := some ⟨.val v, ⟨tm, h, nx, ora, rs⟩, low, ⟨[(fact p, true)], []⟩⟩

/-- An index into a block whose contents are not laid open. -/
def bigIndex (C : Ctx) (t : TypeId) (x ix : AV) : St → Option Out
  | ⟨tm, h, nx, ora, rs⟩ => match ix, undA C.P t with
    | .pure (.int _ i), some (.slice e) => match sizeT C.P e with
      | some size => match x with
        | .bsl n off len _ => match Nat.blt n nx with
          | true => outB tm h nx ora rs (.bptr n (off + i.toNat * size)) nx (0 ≤ i ∧ i.toNat < len)
          | false => none
        | .bslx n off len _ => match Nat.blt n nx with
          | true => outB tm h nx ora rs (.bptr n (off + i.toNat * size)) nx (0 ≤ i ∧ i.toNat < len)
          | false => none
        | _ => none
      | none => none
    | _, _ => none

/-- What is read there: a value that is given. -/
def bigLoad (C : Ctx) (t : TypeId) (x : AV) : St → Option Out
  | ⟨tm, h, nx, ora, ⟨vals, fr⟩⟩ => match x, vals with
    | .bptr n off, v :: vals => match bigOf h n, aggType C.P t, sizeT C.P t with
      | some (L, _), some g, some size => match g with
        | false => outB tm h nx ora ⟨vals, fr⟩ (.pure v) nx (L[off]? = some v)
        | true => outB tm h nx ora ⟨vals, fr⟩ (.pure v) nx (∃ xs : Array Value, v = .agg xs ∧ xs.size = size ∧ (L.drop off).take size = xs.toList)
      | _, _, _ => none
    | _, _ => none

def bigStore (C : Ctx) (t : TypeId) (x v : AV) : St → Option Out
  | ⟨tm, h, nx, ora, rs⟩ => match x, pures (cellsOf v) with
    | .bptr n off, some vs => match bigOf h n, sizeT C.P t with
      | some (L, on), some size => match Nat.beq vs.length size && (cellsOf v).all oneCell with
        | true => hputK h n ⟨[], on, .big (splice L off vs)⟩ fun h => outB tm h nx ora rs (.pure undef) (Nat.min n nx) (off + size ≤ L.length)
        | false => none
      | _, _ => none
    | _, _ => none

def bigMake (C : Ctx) (t : TypeId) (len cap : AV) : St → Option Out
  | ⟨tm, h, nx, ora, rs⟩ => match len, cap, undA C.P t with
    | .pure (.int k l), .pure (.int k2 c), some (.slice e) => match infoA C.P e with
      | some i => match i.zero with
        | some z => match Nat.beq z.cells.size i.size with
          | true => withNat (nx + 1) fun nx1 => outB tm ((nx, ⟨[], none, .big (manyZeros z.cells.toList c.toNat)⟩) :: h) nx1 ora rs (.bsl nx 0 l.toNat c.toNat) nx (0 ≤ l ∧ l ≤ c ∧ i.bytes * c.toNat ≤ 140737488355328 ∧ c.toNat ≤ 140737488355328)
          | false => none
        | none => none
      | none => none
    | _, _, _ => none

/-- What is appended, laid open or not: its cells, how many elements, and what is asked. -/
def bigNew (h : AHeap) (size : Nat) (y : AV) : Option (List Value × Nat × Prop) := match y with
  | .bsl b off len _ => match bigOf h b with
    | some (L, _) => some ((L.drop off).take (len * size), len, off + len * size ≤ L.length)
    | none => none
  | .bslx b off len _ => match bigOf h b with
    | some (L, _) => some ((L.drop off).take (len * size), len, off + len * size ≤ L.length)
    | none => none
  | y => match newCells h size y with
    | some (ys, n) => match pures ys with
      | some vs => some (vs, n, True)
      | none => none
    | none => none

def bigAppTo (size bytes : Nat) (x : AV) (vs : List Value) (n : Nat) (p : Prop) : St → Option Out
  | ⟨tm, h, nx, ora, rs⟩ => match x with
    | .pure (.slice none l c) => match l, c with
      | 0, 0 => withNat (nx + 1) fun nx1 => outB tm ((nx, ⟨[], some size, .big vs⟩) :: h) nx1 ora rs (.bslx nx 0 n 0) nx
          (p ∧ 0 < n ∧ n * bytes ≤ 140737488355328 ∧ n ≤ 4611686018427387904)
      | _, _ => none
    | .bslx b off len sub => match off, sub, bigOf h b with
      | 0, 0, some (L, some k) => match Nat.beq k size with
        | true => withNat (nx + 1) fun nx1 => outB tm ((nx, ⟨[], some size, .big (L.take (len * size) ++ vs)⟩) :: hdel h b) nx1 ora rs (.bslx nx 0 (len + n) 0) (Nat.min b nx)
            (p ∧ (∀ u ∈ vs, u.oneCell' = true) ∧ len * size ≤ L.length ∧ (len + n) * bytes ≤ 140737488355328 ∧ len + n ≤ 4611686018427387904)
        | false => none
      | _, _, _ => none
    | .sl b off len cap => match off, hcells h b with
      | 0, some ⟨cs, none, _⟩ => match Nat.beq cs.length (cap * size), pures cs with
        | true, some L => withNat (nx + 1) fun nx1 => outB tm ((nx, ⟨[], some size, .big (L.take (len * size) ++ vs)⟩) :: hdel h b) nx1 ora rs (.bslx nx 0 (len + n) 0) (Nat.min b nx)
            (p ∧ (∀ u ∈ vs, u.oneCell' = true) ∧ len ≤ cap ∧ (len + n) * bytes ≤ 140737488355328 ∧ len + n ≤ 4611686018427387904)
        | _, _ => none
      | _, _ => none
    | _ => none

def bigAppend (C : Ctx) (c : Call) (s : St) : Option Out := match c.args.toList, c.argTypes.toList with
  | [x, y], [t, u] => match undA C.P t, undA C.P u with
    | some (.slice e), some du => match listLike du, infoA C.P e with
      | true, some i => match i.zero with
        | some z => match Nat.beq z.cells.size i.size, bigNew s.heap i.size (aeval s.tmps y) with
          | true, some (vs, n, p) => bigAppTo i.size i.bytes (aeval s.tmps x) vs n p s
          | _, _ => none
        | none => none
      | _, _ => none
    | _, _ => none
  | _, _ => none

def goBig (C : Ctx) (f : FuncId) (o : Oper) (s : St) : Option (Option Out) := match o.op with
  | .indexAddr t x ix => match aeval s.tmps x with
    | .bsl a b c d => some (bigIndex C t (.bsl a b c d) (aeval s.tmps ix) s)
    | .bslx a b c d => some (bigIndex C t (.bslx a b c d) (aeval s.tmps ix) s)
    | _ => none
  | .load t a => match aeval s.tmps a with
    | .bptr n off => some (bigLoad C t (.bptr n off) s)
    | _ => none
  | .store t a x => match aeval s.tmps a with
    | .bptr n off => some (bigStore C t (.bptr n off) (aeval s.tmps x) s)
    | _ => none
  | .makeSlice t l c => match o.dst with
    | some d => match C.sym f (d + 1000000) with
      | true => some (bigMake C t (aeval s.tmps l) (aeval s.tmps c) s)
      | false => none
    | none => none
  | .call c => match c.callee with
    | .builtin .append => match o.dst with
      | some d => match C.sym f (d + 1000000) with
        | true => some (bigAppend C c s)
        | false => none
      | none => none
    | _ => none
  | _ => none

def goSmall (C : Ctx) (R : Rec) (f : FuncId) (o : Oper) (s : St) : Option Out := match o.op with
  | .pick c x y => goPick C f o c x y s
  | .call c => match c.callee with
    | .value _ => match yieldOf s.tmps c with
      | some (l, args) => goYield R l args s
      | none => goCall R c s
    | _ => goPlain C o s
  | .binOp op _ _ _ _ => match op with
    | .quo => goDiv C o s
    | .rem => goDiv C o s
    | _ => goPlain C o s
  | _ => goPlain C o s

/-- The blocks for deferred calls, shut. -/
def shutMarks : List Nat → AHeap → Option AHeap
  | [], h => some h
  | d :: ds, h => match hget h d with
    | some ⟨_, _, .dfr⟩ => shutMarks ds (hdel h d)
    | _ => none

def leaveWith (C : Ctx) (rv : List ResultVar) (vs : List AV) (nx : Nat) (fr : AFrame) (tm2 : List AV) (h2 : AHeap) (nx2 : Nat) (ora2 : List Bool) (vals : List Value) (l2 : Nat) (g2 : Log) : Option Out :=
  match aresults C tm2 h2 rv with
  | some us => match vs.all isPure && isPure (resultOf us) with
      | true => some ⟨.val (resultOf us), ⟨[], hbelow h2 nx, nx2, ora2, ⟨vals, fr⟩⟩, l2, g2⟩
      | false => match (resultOf us).ok nx2 with
        | true => some ⟨.val (resultOf us), ⟨[], h2, nx2, ora2, ⟨vals, fr⟩⟩, l2, g2⟩
        | false => none
  | none => none

def goOp (C : Ctx) (R : Rec) (f : FuncId) (o : Oper) (s : St) : Option Out := match goBig C f o s with
  | some r => r
  | none => goSmall C R f o s

def lowOf : List Nat → Nat → Nat
  | [], l => l
  | d :: ds, l => Nat.min d (lowOf ds l)

def leave (C : Ctx) (rv : List ResultVar) (vs : List AV) (nx : Nat) (fr : AFrame) : Option Out → Option Out
  | some ⟨x, ⟨tm2, h2, nx2, ora2, rs2⟩, l2, g2⟩ => match isOff x, rs2.fr.marks with
    | true, [] => leaveWith C rv vs nx fr tm2 h2 nx2 ora2 rs2.vals (Nat.min l2 (lowOf [] nx2)) g2
    | true, m :: ms => match shutMarks (m :: ms) h2 with
      | some h3 => leaveWith C rv vs nx fr tm2 h3 nx2 ora2 rs2.vals (Nat.min l2 (lowOf (m :: ms) nx2)) g2
      | none => none
    | _, _ => none
  | none => none

def contract (g : FuncId) (vs : List AV) : St → Option Out
  | ⟨_, h, nx, ora, ⟨rs, fr⟩⟩ => match pures vs, rs with
    | some us, r :: res => some ⟨.val (.pure r), ⟨[], h, nx, ora, ⟨res, fr⟩⟩, nx, ⟨[], [.call g us r]⟩⟩
    | _, _ => none

/-- A function whose doing is given. -/
def summary (v : Value) : St → Option Out
  | ⟨_, h, nx, ora, rs⟩ => some ⟨.val (.pure v), ⟨[], h, nx, ora, rs⟩, nx, ⟨[], []⟩⟩

def goEnter (C : Ctx) (R : Rec) (g : FuncId) (vs : List AV) : St → Option Out
  | ⟨_, h, nx, ora, rs⟩ => match C.fine g, listGet C.P.funcs.toList g with
    | true, some fn => match fn.body, AV.okL nx vs with
      | some c, true => spine (vs ++ List.replicate (fn.ntmps - vs.length) (.pure undef)) fun tm1 => leave C fn.results.toList vs nx rs.fr (R (.code g c) ⟨tm1, h, nx, ora, ⟨rs.vals, noFrame⟩⟩)
      | _, _ => none
    | _, _ => none

def step (C : Ctx) (R : Rec) (j : Job) (s : St) : Option Out := match j with
  | .code f c => goCode C R f c s
  | .loop f c => goLoop R f c (R (.code f c) s)
  | .ops f ops todo => goOps C R f ops todo s
  | .draw f ops todo base seen acc => goDraw C R f ops todo base seen acc s
  | .op f o => goOp C R f o s
  | .enter g vs => match C.con g with
    | true => contract g vs s
    | false => match C.fnp g vs s.heap with
      | some q => summary q s
      | none => goEnter C R g vs s

def run (C : Ctx) : Nat → Job → St → Option Out
  | 0, _, _ => none
  | n + 1, j, s => step C (run C n) j s

end
end Go.Ev
