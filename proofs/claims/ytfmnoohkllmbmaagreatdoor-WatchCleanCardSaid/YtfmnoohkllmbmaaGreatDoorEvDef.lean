/- The evaluator: EvDef. -/
import Derived.Orders
namespace Go.Proofs.YtfmnoohkllmbmaaGreatDoor
namespace Ev

/-! ### Tries -/
inductive T (α : Type) where
  | leaf
  | node (l : T α) (v : Option α) (r : T α)

def T.get {α : Type} : T α → Nat → Option α
  | .leaf, _ => none
  | .node l v r, k => match Nat.beq k 0 with
    | true => v
    | false => match Nat.beq (k % 2) 1 with
      | true => l.get (k / 2)
      | false => r.get (k / 2 - 1)

def T.single {α : Type} (x : Option α) : Nat → Nat → T α
  | 0, _ => .leaf
  | f + 1, k => match Nat.beq k 0 with
    | true => .node .leaf x .leaf
    | false => match Nat.beq (k % 2) 1 with
      | true => .node (T.single x f (k / 2)) none .leaf
      | false => .node .leaf none (T.single x f (k / 2 - 1))

/-- the element at k becomes x (none: it goes) -/
def T.put {α : Type} (x : Option α) : T α → Nat → T α
  | .leaf, k => T.single x (k + 1) k
  | .node l v r, k => match Nat.beq k 0 with
    | true => .node l x r
    | false => match Nat.beq (k % 2) 1 with
      | true => .node (T.put x l (k / 2)) v r
      | false => .node l v (T.put x r (k / 2 - 1))

/-! ### Values, blocks -/
inductive AV where
  | bool (b : Bool)
  | int (k : IntKind) (n : Int)
  | str (s : List Nat)
  | ptr (b o : Nat) | nilPtr
  | sl (b o n c : Nat)
  | gsl (b l n sz : Nat)
  | esl
  | nilSl
  | map (b : Nat) | nilMap
  | chan (b : Nat) | nilChan
  | func (f : Nat) (first caps : List AV) | nilFunc
  | iface (t : Nat) (v : AV) | nilIface
  | agg (cs : List AV)
  | tup (vs : List AV)
  deriving Inhabited

def AV.cells : AV → List AV
  | .agg cs => cs
  | v => [v]

inductive ABk where
  /-- a row of cells: its type, the cells of one element, does its room hang on the tape?, may it be written?, its cells -/
  | cells (e sz : Nat) (grown ro : Bool) (cs : List AV)
  | map (es : List (AV × AV)) (clock : Nat)
  | chan (cap : Nat) (buf : List AV) (sent received : Nat)
  deriving Inhabited

inductive TD where
  | int (k : IntKind) | bool | str
  | ptr (e : Nat) | slice (e : Nat) | array (n e : Nat) | map (k e : Nat) | chan (e : Nat)
  | struct (fs : List (Nat × Nat × Bool))    -- type, offset, is it named '_'?
  | iface (empty : Bool) | func | tuple | other
  deriving Inhabited

structure TI where
  d : TD
  agg : Bool
  size : Nat
  bytes : Nat
  zero : List AV
  /-- may two values be held against each other as they are? -/
  cmp : Bool
  deriving Inhabited

instance {α : Type} : Inhabited (T α) := ⟨.leaf⟩

structure St where
  tm : T AV
  nt : Nat
  defers : List AV
  heap : T ABk
  next : Nat
  deriving Inhabited

inductive Ex where
  | norm | exit (id : Nat) | ret
  deriving Inhabited

/-- what the program holds: types, functions, globals, functions that are told by a plain function of strings and numbers, closures that do nothing when deferred and no panic is there -/
structure Env where
  ty : T TI
  fn : T Func
  gl : T Nat
  pure : T (List AV → Option AV)
  idle : T Nat

def bytesOfArray (s : ByteArray) : List Nat := s.data.toList.map (·.toNat)

mutual
def cvt : Value → Option AV
  | .bool b => some (.bool b)
  | .int k n => some (.int k n)
  | .string s => some (.str (bytesOfArray s))
  | .pointer none => some .nilPtr
  | .slice none 0 0 => some .nilSl
  | .map none => some .nilMap
  | .chan none => some .nilChan
  | .nilFunc => some .nilFunc
  | .nilIface => some .nilIface
  | .func (.func f) ⟨[]⟩ ⟨[]⟩ => some (.func f [] [])
  | .agg ⟨cs⟩ => match cvtL cs with
    | some l => some (.agg l)
    | none => none
  | .tuple ⟨cs⟩ => match cvtL cs with
    | some l => some (.tup l)
    | none => none
  | _ => none
def cvtL : List Value → Option (List AV)
  | [] => some []
  | v :: vs => match cvt v with
    | some a => match cvtL vs with
      | some l => some (a :: l)
      | none => none
    | none => none
end

section
variable (E : Env)

def evOperand (tm : T AV) : Operand → Option AV
  | .tmp t => tm.get t
  | .const v => cvt v
  | .global g => match E.gl.get g with
    | some b => some (.ptr b 0)
    | none => none
  | .func f => some (.func f [] [])

def evOperands (r : Operand → Option AV) : List Operand → Option (List AV)
  | [] => some []
  | x :: xs => match r x with
    | some a => match evOperands r xs with
      | some l => some (a :: l)
      | none => none
    | none => none

def evParts (r : Operand → Option AV) : List (Nat × Operand) → Option (List (Nat × AV))
  | [] => some []
  | (i, x) :: xs => match r x with
    | some a => match evParts r xs with
      | some l => some ((i, a) :: l)
      | none => none
    | none => none

/-- n elements of l from k on -/
def sub (l : List AV) (k n : Nat) : Option (List AV) :=
  let r := (l.drop k).take n
  match Nat.beq r.length n with
  | true => some r
  | false => none

/-- the elements from k on become xs -/
def over : List AV → Nat → List AV → Option (List AV)
  | l, 0, [] => some l
  | _ :: l, 0, x :: xs => match over l 0 xs with
    | some r => some (x :: r)
    | none => none
  | y :: l, k + 1, xs => match over l k xs with
    | some r => some (y :: r)
    | none => none
  | [], _, _ => none

def rep (z : List AV) : Nat → List AV
  | 0 => []
  | n + 1 => z ++ rep z n

def nth {α : Type} : List α → Nat → Option α
  | [], _ => none
  | x :: _, 0 => some x
  | _ :: l, k + 1 => nth l k

def rd (h : T ABk) (b o n : Nat) : Option (List AV) :=
  match h.get b with
  | some (.cells _ _ _ _ cs) => sub cs o n
  | _ => none

def AV.isCell : AV → Bool
  | .agg _ | .tup _ => false
  | _ => true

def cellsOnly : List AV → Bool
  | [] => true
  | x :: xs => match x.isCell with
    | true => cellsOnly xs
    | false => false

def wr (h : T ABk) (b o : Nat) (xs : List AV) : Option (T ABk) :=
  match cellsOnly xs with
  | false => none
  | true => match h.get b with
    | some (.cells e sz g false cs) => match over cs o xs with
      | some cs' => some (h.put (some (.cells e sz g false cs')) b)
      | none => none
    | _ => none

def inI64 (n : Int) : Bool := match n with
  | .ofNat m => Nat.blt m 9223372036854775808
  | .negSucc m => Nat.blt m 9223372036854775808

def wrapI (k : IntKind) (n : Int) : Int := match k with
  | .i64 => match inI64 n with
    | true => n
    | false => IntKind.wrap .i64 n
  | k => IntKind.wrap k n

def eqI (a b : Int) : Bool := match a, b with
  | .ofNat a, .ofNat b => Nat.beq a b
  | .negSucc a, .negSucc b => Nat.beq a b
  | _, _ => false
def leI (a b : Int) : Bool := match a, b with
  | .ofNat a, .ofNat b => Nat.ble a b
  | .negSucc a, .negSucc b => Nat.ble b a
  | .negSucc _, .ofNat _ => true
  | .ofNat _, .negSucc _ => false

def eqL : List Nat → List Nat → Bool
  | [], [] => true
  | a :: x, b :: y => match Nat.beq a b with
    | true => eqL x y
    | false => false
  | _, _ => false
def ltL : List Nat → List Nat → Bool
  | _, [] => false
  | [], _ :: _ => true
  | a :: x, b :: y => match Nat.blt a b with
    | true => true
    | false => match Nat.beq a b with
      | true => ltL x y
      | false => false

def kindEq : IntKind → IntKind → Bool
  | .i8, .i8 | .i16, .i16 | .i32, .i32 | .i64, .i64 | .u8, .u8 | .u16, .u16 | .u32, .u32 | .u64, .u64 => true
  | _, _ => false

def is64 : IntKind → Bool
  | .i64 | .u64 => true
  | _ => false

def evBinInt (op : BinOp) (k : IntKind) (a b : Int) : Option AV :=
  match op with
  | .add => some (.int k (wrapI k (a + b)))
  | .sub => some (.int k (wrapI k (a - b)))
  | .mul => some (.int k (wrapI k (a * b)))
  | .quo => match eqI b 0 with | true => none | false => some (.int k (wrapI k (a.tdiv b)))
  | .rem => match eqI b 0 with | true => none | false => some (.int k (a.tmod b))
  | .eql => some (.bool (eqI a b))
  | .neq => some (.bool (!eqI a b))
  | .lss => some (.bool (!leI b a))
  | .leq => some (.bool (leI a b))
  | .gtr => some (.bool (!leI a b))
  | .geq => some (.bool (leI b a))
  | .and => match is64 k, a, b with
    | true, .ofNat a, .ofNat b => match Nat.blt a 9223372036854775808, Nat.blt b 9223372036854775808 with
      | true, true => some (.int k (.ofNat (Nat.land a b)))
      | _, _ => none
    | _, _, _ => none
  | .or => match is64 k, a, b with
    | true, .ofNat a, .ofNat b => match Nat.blt a 9223372036854775808, Nat.blt b 9223372036854775808 with
      | true, true => some (.int k (.ofNat (Nat.lor a b)))
      | _, _ => none
    | _, _, _ => none
  | _ => none

def evShift (op : BinOp) (k : IntKind) (a b : Int) : Option AV :=
  match is64 k, op, a, b with
  | true, .shl, a, .ofNat n => match Nat.blt n 64 with
    | true => some (.int k (wrapI k (a * .ofNat (2 ^ n))))
    | false => none
  | true, .shr, .ofNat a, .ofNat n => match Nat.blt n 64 with
    | true => some (.int k (.ofNat (a / 2 ^ n)))
    | false => none
  | _, _, _, _ => none

def evBinStr (op : BinOp) (a b : List Nat) : Option AV :=
  match op with
  | .add => match Nat.blt (a.length + b.length) 1000000 with
    | true => some (.str (a ++ b))
    | false => none
  | .eql => some (.bool (eqL a b))
  | .neq => some (.bool (!eqL a b))
  | .lss => some (.bool (ltL a b))
  | .leq => some (.bool (ltL a b || eqL a b))
  | .gtr => some (.bool (!(ltL a b || eqL a b)))
  | .geq => some (.bool (!ltL a b))
  | _ => none

def partE (cs : List AV) (o : Nat) (ui : TI) : Option AV := match ui.agg with
  | true => (sub cs o ui.size).map .agg
  | false => nth cs o

def eqFields (r : Nat → AV → AV → Option Bool) (xs ys : List AV) : List (Nat × Nat × Bool) → Option Bool
  | [] => some true
  | (u, o, blank) :: fs => match blank with
    | true => eqFields r xs ys fs
    | false => match E.ty.get u with
      | none => none
      | some ui => match partE xs o ui, partE ys o ui with
        | some a, some b => match r u a b with
          | some true => eqFields r xs ys fs
          | x => x
        | _, _ => none

def eqElems (r : Nat → AV → AV → Option Bool) (e : Nat) (ei : TI) (xs ys : List AV) : Nat → Nat → Option Bool
  | 0, _ => some true
  | m + 1, i => match partE xs (i * ei.size) ei, partE ys (i * ei.size) ei with
    | some a, some b => match r e a b with
      | some true => eqElems r e ei xs ys m (i + 1)
      | x => x
    | _, _ => none

/-- '==' at a type, one level -/
def eqStep (r : Nat → AV → AV → Option Bool) (t : Nat) (x y : AV) : Option Bool :=
  match E.ty.get t with
  | none => none
  | some ti => match ti.d, x, y with
    | .bool, .bool a, .bool b => some (match a, b with | true, true | false, false => true | _, _ => false)
    | .int _, .int k a, .int k' b => match kindEq k k' with
      | true => some (eqI a b)
      | false => none
    | .str, .str a, .str b => some (eqL a b)
    | .slice _, .nilSl, .nilSl => some true
    | .slice _, .nilSl, .esl | .slice _, .esl, .nilSl | .slice _, .nilSl, .sl .. | .slice _, .nilSl, .gsl .. | .slice _, .sl .., .nilSl | .slice _, .gsl .., .nilSl => some false
    | .func, .nilFunc, .nilFunc => some true
    | .func, .nilFunc, .func .. | .func, .func .., .nilFunc => some false
    | .ptr _, .nilPtr, .nilPtr => some true
    | .ptr _, .nilPtr, .ptr .. | .ptr _, .ptr .., .nilPtr => some false
    | .iface _, .nilIface, .iface .. | .iface _, .iface .., .nilIface => some false
    | .map .., .nilMap, .nilMap => some true
    | .map .., .nilMap, .map _ | .map .., .map _, .nilMap => some false
    | .struct fs, .agg xs, .agg ys => match ti.cmp with
      | true => eqFields E r xs ys fs
      | false => none
    | .array n e, .agg xs, .agg ys => match ti.cmp, E.ty.get e with
      | true, some ei => eqElems r e ei xs ys n 0
      | _, _ => none
    | _, _, _ => none

/-- '==' at a type (fuel) -/
def evEq : Nat → Nat → AV → AV → Option Bool
  | 0 => fun _ _ _ => none
  | f + 1 => eqStep E (evEq f)

def isCst : Operand → Bool
  | .const _ => true
  | _ => false

def evBin (cst : Bool) (op : BinOp) (t : Nat) (x y : AV) : Option AV :=
  match x, y with
  | .nilIface, .nilIface => match cst, E.ty.get t with
    | true, some ti => match ti.d, op with
      | .iface _, .eql => some (.bool true)
      | .iface _, .neq => some (.bool false)
      | _, _ => none
    | _, _ => none
  | .int k a, .int k' b => match op with
    | .shl | .shr => evShift op k a b
    | op => match kindEq k k' with
      | true => evBinInt op k a b
      | false => none
  | .str a, .str b => evBinStr op a b
  | x, y => match op with
    | .eql => (evEq E 20 t x y).map .bool
    | .neq => (evEq E 20 t x y).map fun b => .bool (!b)
    | _ => none

def fillAt (cs : List AV) (off size : Nat) (v : AV) : Option (List AV) :=
  match Nat.beq v.cells.length size with
  | true => over cs off v.cells
  | false => none

def fillS (fs : List (Nat × Nat × Bool)) : List AV → List (Nat × AV) → Option (List AV)
  | cs, [] => some cs
  | cs, (i, v) :: ps => match nth fs i with
    | none => none
    | some (u, o, _) => match E.ty.get u with
      | none => none
      | some ui => match fillAt cs o ui.size v with
        | some cs' => fillS fs cs' ps
        | none => none

def fillR (size : Nat) : List AV → List (Nat × AV) → Option (List AV)
  | cs, [] => some cs
  | cs, (i, v) :: ps => match fillAt cs (i * size) size v with
    | some cs' => fillR size cs' ps
    | none => none

def natOf : AV → Option Nat
  | .int _ (.ofNat n) => some n
  | _ => none

def bound (y : Nat) : Option AV → Nat → Option Nat
  | none, d => some d
  | some v, _ => match natOf v with
    | some n => match Nat.ble n y with
      | true => some n
      | false => none
    | none => none

def evSlice (t : Nat) (x : AV) (lo hi mx : Option AV) : Option AV :=
  match (match hi, mx with | none, some _ => none | _, _ => E.ty.get t) with
  | none => none
  | some ti => match ti.d, x with
    | .str, .str s => match mx with
      | some _ => none
      | none => match bound s.length hi s.length with
        | none => none
        | some h => match bound h lo 0 with
          | none => none
          | some l => some (.str ((s.drop l).take (h - l)))
    | .slice e, x => match E.ty.get e with
      | none => none
      | some ei => match x with
        | .nilSl => match bound 0 mx 0, bound 0 hi 0, bound 0 lo 0 with
          | some _, some _, some _ => some .nilSl
          | _, _, _ => none
        | .esl => match bound 0 mx 0, bound 0 hi 0, bound 0 lo 0 with
          | some _, some _, some _ => some .esl
          | _, _, _ => none
        | .sl b o n c => match bound c mx c with
          | none => none
          | some m => match bound m hi n with
            | none => none
            | some h => match bound h lo 0 with
              | none => none
              | some l => match Nat.beq m l with
                | true => some (.sl b o (h - l) (m - l))
                | false => some (.sl b (o + l * ei.size) (h - l) (m - l))
        | .gsl b l0 n sz => match Nat.beq ei.size sz with
         | false => none
         | true => match mx with
          | some _ => match bound n mx n with           -- within the length: the room is exact then
            | none => none
            | some m => match bound m hi n with
              | none => none
              | some h => match bound h lo 0 with
                | none => none
                | some l => match Nat.beq m l with
                  | true => some (.sl b (l0 * sz) (h - l) (m - l))
                  | false => some (.sl b (l0 * sz + l * sz) (h - l) (m - l))
          | none => match bound n hi n with
            | none => none
            | some h => match bound h lo 0 with
              | none => none
              | some l => match Nat.beq n l with
                | true => match Nat.beq l 0 with
                  | true => some (.gsl b l0 h sz)
                  | false => some .esl
                | false => some (.gsl b (l0 + l) (h - l) sz)
        | _ => none
    | .array n e, .ptr b o => match E.ty.get e with
      | none => none
      | some ei => match bound n mx n with
        | none => none
        | some m => match bound m hi n with
          | none => none
          | some h => match bound h lo 0 with
            | none => none
            | some l => match Nat.beq m l with
              | true => some (.sl b o (h - l) (m - l))
              | false => some (.sl b (o + l * ei.size) (h - l) (m - l))
    | _, _ => none

/-- the cells of the first n elements of a slice -/
def evFirst (h : T ABk) (size n : Nat) : AV → Option (List AV)
  | .nilSl => some []
  | .esl => match Nat.beq n 0 with
    | true => some []
    | false => none
  | .sl b o _ _ => rd h b o (n * size)
  | .gsl b l _ sz => rd h b (l * sz) (n * size)
  | _ => none

def lenOf : AV → Option Nat
  | .nilSl => some 0
  | .esl => some 0
  | .sl _ _ n _ | .gsl _ _ n _ => some n
  | .str s => some s.length
  | _ => none

def rm (h : T ABk) (b : Nat) : T ABk := h.put none b

/-- append: the elements' cells are there; the answer, the memory, how many blocks are new -/
def evAppend (h : T ABk) (nx e size by_ m : Nat) (s : AV) (news : List AV) : Option (AV × T ABk × Nat) :=
  match Nat.beq size 0 || !(match lenOf s with | some n => Nat.ble ((n + m) * (by_ + 1)) 1000000000 | none => false) with
  | true => none
  | false => match s with
  | .nilSl => match Nat.beq m 0 with
    | true => some (.nilSl, h, nx)
    | false => some (.gsl nx 0 m size, h.put (some (.cells e size true false news)) nx, nx + 1)
  | .sl b o n c => match Nat.ble (n + m) c with
    | true => match wr h b (o + n * size) news with
      | some h => some (.sl b o (n + m) c, h, nx)
      | none => none
    | false => match rd h b o (n * size) with
      | some old => some (.gsl nx 0 (n + m) size, h.put (some (.cells e size true false (old ++ news))) nx, nx + 1)
      | none => none
  | .gsl b l n sz => match Nat.beq sz size with
    | false => none
    | true => match h.get b with
      | some (.cells e' sz' true false cs) =>
        match Nat.beq e' e && Nat.beq sz' sz with
        | false => none
        | true => match Nat.ble ((l + n + m) * sz) cs.length with
          | true => match wr h b (l * sz + n * sz) news with
            | some h => some (.gsl b l (n + m) sz, h, nx)
            | none => none
          | false => match Nat.beq l 0, cellsOnly news with
            | true, true => match Nat.beq (n * sz) cs.length with
              | false => none
              | true => some (.gsl nx 0 (n + m) sz, (rm h b).put (some (.cells e size true false (cs ++ news))) nx, nx + 1)
            | _, _ => none
      | _ => none
  | _ => none

def evCopy (h : T ABk) (size : Nat) (d s : AV) : Option (AV × T ABk) :=
  match lenOf d, lenOf s with
  | some dn, some sn => match evFirst h size (Nat.min sn dn) s with
    | none => none
    | some cells => match d with
      | .nilSl => some (.int .i64 (.ofNat (Nat.min sn dn)), h)
      | .sl b o _ _ => (wr h b o cells).map fun h => (.int .i64 (.ofNat (Nat.min sn dn)), h)
      | .gsl b l _ sz => (wr h b (l * sz) cells).map fun h => (.int .i64 (.ofNat (Nat.min sn dn)), h)
      | _ => none
  | _, _ => none

/-- may this be a key of the type? -/
def keyFields (r : Nat → AV → Bool) (cs : List AV) : List (Nat × Nat × Bool) → Bool
  | [] => true
  | (u, o, blank) :: fs => match blank with
    | true => keyFields r cs fs
    | false => match E.ty.get u with
      | none => false
      | some ui => match partE cs o ui with
        | some a => match r u a with
          | true => keyFields r cs fs
          | false => false
        | none => false

def keyOk : Nat → Nat → AV → Bool
  | 0 => fun _ _ => false
  | f + 1 => fun t a => match E.ty.get t with
    | none => false
    | some ti => match ti.d, a with
      | .struct fs, .agg cs => keyFields E (keyOk f) cs fs
      | .int _, _ | .str, _ | .bool, _ => true
      | _, _ => false

/-- the value under a key: all keys are looked at, and one at most is the same -/
def findE (k : Nat) (key : AV) : List (AV × AV) → Option (Option AV)
  | [] => some none
  | (a, v) :: es => match evEq E 20 k key a with
    | some true => match findE k key es with
      | some none => some (some v)
      | _ => none
    | some false => findE k key es
    | none => none

def evLen (h : T ABk) (t : Nat) (x : AV) : Option AV :=
  match E.ty.get t with
  | none => none
  | some ti => match ti.d, x with
    | .str, .str s => some (.int .i64 (.ofNat s.length))
    | .array n _, _ => some (.int .i64 (.ofNat n))
    | .slice _, .nilSl => some (.int .i64 0)
    | .slice _, .esl => some (.int .i64 0)
    | .slice _, .sl _ _ n _ => some (.int .i64 (.ofNat n))
    | .slice _, .gsl _ _ n _ => some (.int .i64 (.ofNat n))
    | .map .., .nilMap => some (.int .i64 0)
    | .map .., .map b => match h.get b with
      | some (.map es _) => some (.int .i64 (.ofNat es.length))
      | _ => none
    | _, _ => none

/-- what a look-up answers: what was found, the zero, is it asked whether it was there? -/
def lookAns : Option (Option AV) → Option AV → Bool → Option AV
  | some (some v), _, true => some (.tup [v, .bool true])
  | some (some v), _, false => some v
  | some none, some z, true => some (.tup [z, .bool false])
  | some none, some z, false => some z
  | _, _, _ => none

section ops
variable (r : Operand → Option AV) (h : T ABk)

/-- what an operation yields that changes nothing -/
def evPure (o : Oper) : Option AV :=
  match o.op with
  | .move x | .assign x => r x
  | .pick c a b => match r c with
    | some (.bool true) => r a
    | some (.bool false) => r b
    | _ => none
  | .build t ps => match evParts r ps.toList, E.ty.get t with
    | some l, some ti => match ti.d with
      | .struct fs => (fillS E fs ti.zero l).map .agg
      | .array _ e => match E.ty.get e with
        | some ei => (fillR ei.size ti.zero l).map .agg
        | none => none
      | _ => none
    | _, _ => none
  | .load t x => match r x, E.ty.get t with
    | some (.ptr b o), some ti => match ti.agg with
      | true => (rd h b o ti.size).map .agg
      | false => match h.get b with
        | some (.cells _ _ _ _ cs) => nth cs o
        | _ => none
    | _, _ => none
  | .nilCheck x => match r x with
    | some (.ptr b o) => some (.ptr b o)
    | some (.func f a b) => some (.func f a b)
    | _ => none
  | .binOp op t x y _ => match r x, r y with
    | some a, some b => evBin E (isCst x || isCst y) op t a b
    | _, _ => none
  | .unOp op _ x => match op, r x with
    | .not, some (.bool b) => some (.bool (!b))
    | .neg, some (.int k n) => some (.int k (wrapI k (0 - n)))
    | _, _ => none
  | .convert s d x => match r x, E.ty.get s, E.ty.get d with
    | some v, some si, some di => match si.d, di.d, v with
      | _, .int k, .int _ n => some (.int k (wrapI k n))
      | _, .str, .str s => some (.str s)
      | _, _, _ => none
    | _, _, _ => none
  | .makeInterface t x => match r x, E.ty.get t with
    | some v, some ti => match ti.d with
      | .iface _ => none
      | _ => some (.iface t v)
    | _, _ => none
  | .makeFunc (.func f) first caps => match evOperands r first.toList, evOperands r caps.toList with
    | some a, some b => some (.func f a b)
    | _, _ => none
  | .slice t x lo hi mx =>
    let ev : Option Operand → Option (Option AV) := fun | none => some none | some x => match r x with | some v => some (some v) | none => none
    match r x, ev lo, ev hi, ev mx with
    | some v, some l, some h, some m => evSlice E t v l h m
    | _, _, _, _ => none
  | .fieldAddr t x f => match r x, E.ty.get t with
    | some (.ptr b o), some ti => match ti.d with
      | .struct fs => match nth fs f with
        | some (u, off, _) => match E.ty.get u with
          | some ui => match Nat.beq ui.size 0 with
            | true => none
            | false => some (.ptr b (o + off))
          | none => none
        | none => none
      | _ => none
    | _, _ => none
  | .field t x f => match r x, E.ty.get t with
    | some (.agg cs), some ti => match ti.d with
      | .struct fs => match nth fs f with
        | some (u, off, _) => match E.ty.get u with
          | some ui => partE cs off ui
          | none => none
        | none => none
      | _ => none
    | _, _ => none
  | .indexAddr t x i => match r x, r i, E.ty.get t with
    | some v, some iv, some ti => match natOf iv, ti.d, v with
      | some i, .slice e, .sl b o n _ => match Nat.blt i n, E.ty.get e with
        | true, some ei => some (.ptr b (o + i * ei.size))
        | _, _ => none
      | some i, .slice e, .gsl b l n sz => match Nat.blt i n, E.ty.get e with
        | true, some ei => some (.ptr b (l * sz + i * ei.size))
        | _, _ => none
      | some i, .array n e, .ptr b o => match Nat.blt i n, E.ty.get e with
        | true, some ei => some (.ptr b (o + i * ei.size))
        | _, _ => none
      | _, _, _ => none
    | _, _, _ => none
  | .index t x i => match r x, r i, E.ty.get t with
    | some v, some iv, some ti => match natOf iv, ti.d, v with
      | some i, .str, .str s => (nth s i).map fun (b : Nat) => .int .u8 (.ofNat b)
      | some i, .array n e, .agg cs => match Nat.blt i n, E.ty.get e with
        | true, some ei => partE cs (i * ei.size) ei
        | _, _ => none
      | _, _, _ => none
    | _, _, _ => none
  | .lookup t x i ok => match r x, r i, E.ty.get t with
    | some v, some key, some ti => match ti.d with
      | .map k e => match E.ty.get e with
        | none => none
        | some ei =>
          let z : Option AV := match ei.agg with | true => some (.agg ei.zero) | false => nth ei.zero 0
          let r : Option (Option AV) := match keyOk E 20 k key with
            | false => none
            | true => match v with
              | .nilMap => some none
              | .map b => match h.get b with
                | some (.map es _) => findE E k key es
                | _ => none
              | _ => none
          lookAns r z ok
      | _ => none
    | _, _, _ => none
  | .extract x i => match r x with
    | some (.tup vs) => nth vs i
    | _ => none
  | .call { callee := .builtin b, args, argTypes } => match evOperands r args.toList with
    | none => none
    | some l => match b, l with
      | .len, [x] => match nth argTypes.toList 0 with
        | some t => evLen E h t x
        | none => none
      | .cap, [x] => match nth argTypes.toList 0 with
        | some t => match E.ty.get t with
          | some ti => match ti.d, x with
            | .slice _, .sl _ _ _ c => some (.int .i64 (.ofNat c))
            | .slice _, .nilSl => some (.int .i64 0)
            | _, _ => none
          | none => none
        | none => none
      | .max, [.int k x, .int k' y] => match kindEq k k' with
        | true => some (.int k (match leI y x with | true => x | false => y))
        | false => none
      | .min, [.int k x, .int k' y] => match kindEq k k' with
        | true => some (.int k (match leI x y with | true => x | false => y))
        | false => none
      | _, _ => none
  | _ => none

/-- a new block, and what an operation yields that makes it -/
def evNew (o : Oper) : Option (ABk × (Nat → AV)) :=
  match o.op with
  | .alloc t => match E.ty.get t with
    | some ti => some (.cells t ti.size false false ti.zero, fun i => .ptr i 0)
    | none => none
  | .box t x => match r x with
    | some v => some (.cells t v.cells.length false false v.cells, fun i => .ptr i 0)
    | none => none
  | .buildSlice t n ps => match evParts r ps.toList, E.ty.get t with
    | some l, some ti => match ti.d with
      | .slice e => match E.ty.get e with
        | some ei => match Nat.ble (n * ei.size) 100000 with
          | true => match fillR ei.size (rep ei.zero n) l with
            | some cs => some (.cells e ei.size false false cs, fun i => .sl i 0 n n)
            | none => none
          | false => none
        | none => none
      | _ => none
    | _, _ => none
  | .convert s d x => match r x, E.ty.get s, E.ty.get d with
    | some (.str l), some _, some di => match di.d with
      | .slice e => match E.ty.get e with
        | some ei => match ei.d with
          | .int .u8 => some (.cells e 1 true true (l.map fun b => .int .u8 (.ofNat b)), fun i => .gsl i 0 l.length 1)
          | _ => none
        | none => none
      | _ => none
    | _, _, _ => none
  | .makeMap _ none => some (.map [] 0, fun i => .map i)
  | .makeChan t x => match r x, E.ty.get t with
    | some v, some ti => match natOf v, ti.d with
      | some n, .chan e => match E.ty.get e with
        | some ei => match Nat.ble n 100000, Nat.ble (ei.bytes * n) 100000 with
          | true, true => some (.chan n [] 0 0, fun i => .chan i)
          | _, _ => none
        | none => none
      | _, _ => none
    | _, _ => none
  | .makeSlice t l c => match r l, r c, E.ty.get t with
    | some lv, some cv, some ti => match natOf lv, natOf cv, ti.d with
      | some n, some m, .slice e => match E.ty.get e with
        | some ei => match Nat.ble n m, Nat.ble (m * (ei.size + ei.bytes + 1)) 1000000 with
          | true, true => some (.cells e ei.size false false (rep ei.zero m), fun i => .sl i 0 n m)
          | _, _ => none
        | none => none
      | _, _, _ => none
    | _, _, _ => none
  | _ => none

/-- what an operation yields that writes -/
def evEff (nx : Nat) (o : Oper) : Option (AV × T ABk × Nat) :=
  match o.op with
  | .store t a x => match r a, r x, E.ty.get t with
    | some (.ptr b o), some v, some ti => match Nat.beq v.cells.length ti.size with
      | true => (wr h b o v.cells).map fun h => (.tup [], h, nx)
      | false => none
    | _, _, _ => none
  | .mapUpdate t m k x | .insert t m k x => match r m, r k, r x with
    | some (.map b), some key, some v => match E.ty.get t, h.get b with
      | some ti, some (.map es clock) => match ti.d with
        | .map kt _ => match keyOk E 20 kt key, findE E kt key es with
          | true, some none => some (.tup [], h.put (some (.map (es ++ [(key, v)]) (clock + 1))) b, nx)
          | _, _ => none
        | _ => none
      | _, _ => none
    | _, _, _ => none
  | .call { callee := .builtin b, args, argTypes } => match evOperands r args.toList with
    | none => none
    | some l => match b, l with
      | .append, [s, x] => match nth argTypes.toList 0, nth argTypes.toList 1 with
        | some t, some u => match E.ty.get t, E.ty.get u with
          | some ti, some ui => match ti.d, ui.d with
            | .slice e, .slice _ => match E.ty.get e, lenOf x with
              | some ei, some m => match evFirst h ei.size m x with
                | some news => evAppend h nx e ei.size ei.bytes m s news
                | none => none
              | _, _ => none
            | _, _ => none
          | _, _ => none
        | _, _ => none
      | .copy, [d, s] => match nth argTypes.toList 0 with
        | some t => match E.ty.get t with
          | some ti => match ti.d with
            | .slice e => match E.ty.get e with
              | some ei => (evCopy h ei.size d s).map fun (v, h) => (v, h, nx)
              | none => none
            | _ => none
          | none => none
        | none => none
      | _, _ => none
  | _ => none

end ops

inductive Kd where
  | pure | read | new | eff | call | defer
  deriving Inhabited

/-- which of the three an operation is -/
def kindOf (o : Oper) : Kd :=
  match o.op with
  | .load .. | .lookup .. => .read
  | .alloc _ | .box .. | .buildSlice .. | .makeMap .. | .makeChan .. | .makeSlice .. => .new
  | .convert s d _ => match E.ty.get s, E.ty.get d with
    | some si, some di => match si.d, di.d with
      | .str, .slice _ => .new
      | _, _ => .pure
    | _, _ => .pure
  | .store .. | .mapUpdate .. | .insert .. => .eff
  | .call { callee := .builtin b, .. } => match b with
    | .append | .copy => .eff
    | .len => .read
    | _ => .pure
  | .call _ => .call
  | .defer _ => .defer
  | _ => .pure

/-- the frame of a call -/
def lay : List AV → Nat → T AV → T AV
  | [], _, tm => tm
  | a :: as, i, tm => lay as (i + 1) (tm.put (some a) i)

def resultOf (tm : T AV) (h : T ABk) : ResultVar → Option AV
  | .tmp t => tm.get t
  | .cell t ty => match tm.get t, E.ty.get ty with
    | some (.ptr b o), some ti => match ti.agg with
      | true => (rd h b o ti.size).map .agg
      | false => match h.get b with
        | some (.cells _ _ _ _ cs) => nth cs o
        | _ => none
    | _, _ => none

def resultsOf (tm : T AV) (h : T ABk) : List ResultVar → Option (List AV)
  | [] => some []
  | r :: rs => match resultOf E tm h r with
    | some v => match resultsOf tm h rs with
      | some l => some (v :: l)
      | none => none
    | none => none

def idleAll : List AV → Bool
  | [] => true
  | .func f xs ys :: l => match E.idle.get f with
    | some n => match Nat.beq n (xs.length + ys.length) with
      | true => idleAll l
      | false => false
    | none => false
  | _ => false

abbrev Rec := Code → St → Option (Ex × St)

/-- a call of a function: what it yields, the memory, the next number -/
def evCall (rec_ : Rec) (h : T ABk) (nx f : Nat) (args : List AV) : Option (AV × T ABk × Nat) :=
  match E.pure.get f with
  | some g => (g args).map (·, h, nx)
  | none => match E.fn.get f with
    | none => none
    | some fn => match fn.body with
      | none => none
      | some c => match rec_ c { tm := lay args 0 .leaf, nt := fn.ntmps, defers := [], heap := h, next := nx } with
        | some (.norm, s) | some (.ret, s) => match idleAll E s.defers with
          | false => none
          | true => match resultsOf E s.tm s.heap fn.results.toList with
            | some [v] => some (v, s.heap, s.next)
            | some l => some (.tup l, s.heap, s.next)
            | none => none
        | _ => none

def evCallOp (rec_ : Rec) (r : Operand → Option AV) (h : T ABk) (nx : Nat) (o : Oper) : Option (AV × T ABk × Nat) :=
  match o.op with
  | .call { callee := .value x, args, .. } => match r x, evOperands r args.toList with
    | some (.func f first caps), some l => evCall E rec_ h nx f (first ++ l ++ caps)
    | _, _ => none
  | _ => none

def put (st : St) (dst : Option Nat) (v : AV) : Option St :=
  match dst with
  | none => some st
  | some d => match Nat.blt d st.nt with
    | true => some { st with tm := st.tm.put (some v) d }
    | false => none

/-- an operation where the order is the text's -/
def evOp (rec_ : Rec) (st : St) (o : Oper) : Option St :=
  let r := evOperand E st.tm
  match kindOf E o with
  | .pure | .read => match evPure E r st.heap o with
    | some v => put st o.dst v
    | none => none
  | .new => match evNew E r o with
    | some (b, f) => put { st with heap := st.heap.put (some b) st.next, next := st.next + 1 } o.dst (f st.next)
    | none => none
  | .eff => match evEff E r st.heap st.next o with
    | some (v, h, nx) => put { st with heap := h, next := nx } o.dst v
    | none => none
  | .call => match evCallOp E rec_ r st.heap st.next o with
    | some (v, h, nx) => put { st with heap := h, next := nx } o.dst v
    | none => none
  | .defer => match o.op with
    | .defer { callee := .value x, args, .. } => match r x, evOperands r args.toList with
      | some (.func f first caps), some l => put { st with defers := .func f (first ++ l) caps :: st.defers } o.dst (.tup [])
      | _, _ => none
    | _ => none

/-- is an operation wanted? -/
def wantedBy (get : Nat → Option AV) (ops : List Oper) (o : Oper) : Option Bool :=
  match o.guard with
  | none => some true
  | some (j, want) => match nth ops j with
    | some oj => match oj.dst with
      | some d => match get d with
        | some (.bool b) => some (match b, want with | true, true | false, false => true | _, _ => false)
        | some _ => some false
        | none => none
      | none => none
    | none => none

def evOps (rec_ : Rec) (all : List Oper) : List Oper → St → Option St
  | [], st => some st
  | o :: ops, st => match wantedBy st.tm.get all o with
    | some true => match evOp E rec_ st o with
      | some st' => evOps rec_ all ops st'
      | none => none
    | some false => match put st o.dst (.tup []) with
      | some st' => evOps rec_ all ops st'
      | none => none
    | none => none

/-! ### Are two values the same? -/
mutual
def AV.beq : AV → AV → Bool
  | .bool a, .bool b => match a, b with | true, true | false, false => true | _, _ => false
  | .int k a, .int k' b => kindEq k k' && eqI a b
  | .str a, .str b => eqL a b
  | .ptr a b, .ptr c d => Nat.beq a c && Nat.beq b d
  | .nilPtr, .nilPtr | .nilSl, .nilSl | .esl, .esl | .nilMap, .nilMap | .nilChan, .nilChan | .nilFunc, .nilFunc | .nilIface, .nilIface => true
  | .sl a b c d, .sl e f g h => Nat.beq a e && Nat.beq b f && Nat.beq c g && Nat.beq d h
  | .gsl a b c d, .gsl e f g h => Nat.beq a e && Nat.beq b f && Nat.beq c g && Nat.beq d h
  | .map a, .map b => Nat.beq a b
  | .chan a, .chan b => Nat.beq a b
  | .func f a b, .func g c d => Nat.beq f g && beqL a c && beqL b d
  | .iface t a, .iface u b => Nat.beq t u && AV.beq a b
  | .agg a, .agg b => beqL a b
  | .tup a, .tup b => beqL a b
  | _, _ => false
def beqL : List AV → List AV → Bool
  | [], [] => true
  | a :: x, b :: y => AV.beq a b && beqL x y
  | _, _ => false
end

/-! ### Regions that draw -/
/-- of each operation the set of those ahead of it -/
def befGo : List Oper → List Nat → List Nat
  | [], acc => acc
  | o :: ops, acc => befGo ops (acc ++ [o.after.toList.foldl (fun s e => match Region.binds .any e with
    | true => match nth acc e.on with
      | some b => Nat.lor (Nat.lor s (2 ^ e.on)) b
      | none => s
    | false => s) 0])

def befOf (bef : List Nat) (i : Nat) : List Edge → Nat → Option Nat
  | [], s => some s
  | e :: es, s => match Region.binds .any e with
    | false => befOf bef i es s
    | true => match Nat.blt e.on i, nth bef e.on with
      | true, some b => befOf bef i es (Nat.lor (Nat.lor s (2 ^ e.on)) b)
      | _, _ => none

/-- are these the sets? -/
def okBef (bef : List Nat) : List Oper → Nat → Bool
  | [], _ => true
  | o :: ops, i => match nth bef i, befOf bef i o.after.toList 0 with
    | some b, some b' => match Nat.beq b b' with
      | true => okBef bef ops (i + 1)
      | false => false
    | _, _ => false

def bit (s i : Nat) : Bool := Nat.beq (Nat.land (Nat.shiftRight s i) 1) 1
def within (b s : Nat) : Bool := Nat.beq (Nat.land b s) b

def tmpsOf (ops : List Oper) (o : Oper) : List Nat :=
  (o.op.operands.toList.filterMap fun | .tmp t => some t | _ => none) ++
  (match o.guard with
   | some (g, _) => match nth ops g with
     | some og => og.dst.toList
     | none => []
   | none => [])

def isEff (o : Oper) : Bool := match kindOf E o with
  | .eff | .call | .defer => true
  | _ => false

def isStore (o : Oper) : Bool := match o.op with
  | .store .. => true
  | _ => false

/-- the numbers of the operations with effects -/
def effs : List Oper → Nat → List Nat
  | [], _ => []
  | o :: ops, i => match isEff E o with
    | true => i :: effs ops (i + 1)
    | false => effs ops (i + 1)

def okTmp (bef : List Nat) (b j t : Nat) : List Oper → Nat → Bool
  | [], _ => true
  | o :: ops, i => match o.dst with
    | none => okTmp bef b j t ops (i + 1)
    | some d => match Nat.beq d t with
      | false => okTmp bef b j t ops (i + 1)
      | true => match Nat.beq i j with
        | true => okTmp bef b j t ops (i + 1)
        | false => match bit b i with
          | true => okTmp bef b j t ops (i + 1)
          | false => match nth bef i with
            | some bi => match bit bi j with
              | true => okTmp bef b j t ops (i + 1)
              | false => false
            | none => false

/-- may be carried out in any order: the temporaries -/
def okTmps (bef : List Nat) (all : List Oper) : List Oper → Nat → Bool
  | [], _ => true
  | o :: ops, j => match nth bef j with
    | none => false
    | some b => (tmpsOf all o).all (fun t => okTmp bef b j t all 0) && okTmps bef all ops (j + 1)

def dstFree (d : Nat) : List Oper → Bool
  | [] => true
  | o :: ops => match o.dst with
    | some e => match Nat.beq e d with
      | true => false
      | false => dstFree d ops
    | none => dstFree d ops

def okDsts : List Oper → Bool
  | [] => true
  | o :: ops => match o.dst with
    | some d => match dstFree d ops with
      | true => okDsts ops
      | false => false
    | none => okDsts ops

/-- where a region that draws has come to: temporaries, memory, the next number, what has been done, what has been read (and may come up later too) -/
structure Dr where
  tm : T AV
  h : T ABk
  nx : Nat
  done : Nat
  pend : List (Nat × Oper × T AV × AV)

def putT (nt : Nat) (tm : T AV) (dst : Option Nat) (v : AV) : Option (T AV) :=
  match dst with
  | none => some tm
  | some d => match Nat.blt d nt with
    | true => some (tm.put (some v) d)
    | false => none

/-- an operation without effects -/
def drOne (nt : Nat) (all : List Oper) (i : Nat) (o : Oper) (c : Dr) : Option Dr :=
  match wantedBy c.tm.get all o with
  | none => none
  | some false => (putT nt c.tm o.dst (.tup [])).map fun tm => { c with tm, done := Nat.lor c.done (2 ^ i) }
  | some true => match kindOf E o with
    | .pure => match evPure E (evOperand E c.tm) .leaf o with
      | some v => (putT nt c.tm o.dst v).map fun tm => { c with tm, done := Nat.lor c.done (2 ^ i) }
      | none => none
    | .read => match evPure E (evOperand E c.tm) c.h o with
      | some v => (putT nt c.tm o.dst v).map fun tm => { c with tm, done := Nat.lor c.done (2 ^ i), pend := (i, o, c.tm, v) :: c.pend }
      | none => none
    | .new => match evNew E (evOperand E c.tm) o with
      | some (b, f) => (putT nt c.tm o.dst (f c.nx)).map fun tm => { c with tm, h := c.h.put (some b) c.nx, nx := c.nx + 1, done := Nat.lor c.done (2 ^ i) }
      | none => none
    | _ => none

/-- all operations without effects that may come up now -/
def drStage (nt : Nat) (all : List Oper) : List Oper → List Nat → Nat → Dr → Option Dr
  | [], _, _, c => some c
  | o :: ops, bs, i, c => match bs with
    | [] => none
    | b :: bs => match isEff E o || bit c.done i || !within b c.done with
      | true => drStage nt all ops bs (i + 1) c
      | false => match drOne E nt all i o c with
        | some c' => drStage nt all ops bs (i + 1) c'
        | none => none

/-- no operation without effects is left that might come up -/
def drFull (done : Nat) : List Oper → List Nat → Nat → Bool
  | [], _, _ => true
  | o :: ops, bs, i => match bs with
    | [] => false
    | b :: bs => match isEff E o || bit done i || !within b done with
      | true => drFull done ops bs (i + 1)
      | false => false

/-- what has been read is the same still -/
def drPend (b : Nat) (h : T ABk) : List (Nat × Oper × T AV × AV) → Option (List (Nat × Oper × T AV × AV))
  | [] => some []
  | (i, o, tm, v) :: l => match bit b i with
    | true => drPend b h l
    | false => match evPure E (evOperand E tm) h o with
      | some v' => match AV.beq v v' with
        | true => (drPend b h l).map ((i, o, tm, v) :: ·)
        | false => none
      | none => none

/-- an operation with an effect -/
def drEff (rec_ : Rec) (nt : Nat) (all : List Oper) (i : Nat) (o : Oper) (c : Dr) : Option Dr :=
  match wantedBy c.tm.get all o with
  | none => none
  | some false => (putT nt c.tm o.dst (.tup [])).map fun tm => { c with tm, done := Nat.lor c.done (2 ^ i) }
  | some true => match (match kindOf E o with
      | .eff => evEff E (evOperand E c.tm) c.h c.nx o
      | .call => evCallOp E rec_ (evOperand E c.tm) c.h c.nx o
      | _ => none) with
    | some (v, h, nx) => (putT nt c.tm o.dst v).map fun tm => { c with tm, h, nx, done := Nat.lor c.done (2 ^ i) }
    | none => none

/-- each of these comes behind e -/
def behind (bef : List Nat) (e : Nat) : List Nat → Bool
  | [] => true
  | i :: l => match nth bef i with
    | some b => match bit b e with
      | true => behind bef e l
      | false => false
    | none => false

/-- an operation with an effect, and what may come up behind it -/
def drEffStage (rec_ : Rec) (nt : Nat) (all : List Oper) (bef : List Nat) (e : Nat) (c : Dr) : Option Dr :=
  match nth bef e, nth all e with
  | some b, some o => match within b c.done && !bit c.done e && isEff E o with
    | false => none
    | true => match drEff E rec_ nt all e o c with
      | none => none
      | some c' => match drPend E b c'.h c'.pend with
        | none => none
        | some l => match drStage E nt all all bef 0 { c' with pend := l } with
          | none => none
          | some c'' => match drFull E c''.done all bef 0 with
            | false => none
            | true => some c''
  | _, _ => none

def drDone (all : List Oper) (c : Dr) : Bool := Nat.beq c.done (2 ^ all.length - 1)

/-- do two operations store into two blocks? -/
def storesApart (tm : T AV) (o1 o2 : Oper) : Bool :=
  match o1.op, o2.op, o1.dst, o2.dst with
  | .store _ a1 _, .store _ a2 _, none, none => match evOperand E tm a1, evOperand E tm a2 with
    | some (.ptr b1 _), some (.ptr b2 _) => !Nat.beq b1 b2
    | _, _ => false
  | _, _, _, _ => false

/-- two stores, in any order, at the end -/
def drPair (rec_ : Rec) (nt : Nat) (all : List Oper) (bef : List Nat) (e1 e2 : Nat) (c : Dr) : Option Dr :=
  match nth all e1, nth all e2 with
  | some o1, some o2 => match storesApart E c.tm o1 o2 && !Nat.beq e1 e2 with
    | false => none
    | true => match drEffStage E rec_ nt all bef e1 c, drEffStage E rec_ nt all bef e2 c with
      | some c1, some c2 => match Nat.beq c1.done (Nat.lor c.done (2 ^ e1)) && Nat.beq c2.done (Nat.lor c.done (2 ^ e2)) with
        | false => none
        | true => match drEffStage E rec_ nt all bef e2 c1, drEffStage E rec_ nt all bef e1 c2 with
          | some c12, some c21 => match Nat.beq c12.done (Nat.lor c1.done (2 ^ e2)) && Nat.beq c21.done (Nat.lor c2.done (2 ^ e1)) && drDone all c12 && drDone all c21 with
            | true => some c12
            | false => none
          | _, _ => none
      | _, _ => none
  | _, _ => none

/-- an entry of a map literal: its key and its value -/
def insOne (all : List Oper) (bef : List Nat) (tm : T AV) (done t m kt : Nat) (e : Nat) : Option (AV × AV) :=
  match nth bef e, nth all e with
  | some b, some o => match within b done && !bit done e with
    | false => none
    | true => match o.op, o.dst, o.guard with
      | .insert t' (.tmp m') k x, none, none => match Nat.beq t' t && Nat.beq m' m, evOperand E tm k, evOperand E tm x with
        | true, some K, some X => match keyOk E 20 kt K with
          | true => some (K, X)
          | false => none
        | _, _, _ => none
      | _, _, _ => none
  | _, _ => none

def insAll (all : List Oper) (bef : List Nat) (tm : T AV) (done t m kt : Nat) : List Nat → Option (List (AV × AV))
  | [] => some []
  | e :: es => match insOne E all bef tm done t m kt e, insAll all bef tm done t m kt es with
    | some x, some l => some (x :: l)
    | _, _ => none

def apartFrom (kt : Nat) (K : AV) : List (AV × AV) → Bool
  | [] => true
  | (K', _) :: l => match evEq E 20 kt K K', evEq E 20 kt K' K with
    | some false, some false => apartFrom kt K l
    | _, _ => false

def apartAll (kt : Nat) : List (AV × AV) → Bool
  | [] => true
  | (K, _) :: l => match apartFrom E kt K l with
    | true => apartAll kt l
    | false => false

def rising : List Nat → Bool
  | [] => true
  | e :: es => match es.all (fun f => Nat.blt e f) with
    | true => rising es
    | false => false

/-- each operation that is left comes behind all of these -/
def restBehind (es : List Nat) (done : Nat) : List Oper → List Nat → Nat → Bool
  | [], _, _ => true
  | o :: ops, bs, i => match bs with
    | [] => false
    | b :: bs => match isEff E o || bit done i || es.all (fun e => bit b e) with
      | true => restBehind es done ops bs (i + 1)
      | false => false

def addAll : List Nat → Nat → Nat
  | [], s => s
  | e :: es, s => addAll es (Nat.lor s (2 ^ e))

/-- the entries of a map literal, in any order, at the end -/
def drIns (nt : Nat) (all : List Oper) (bef : List Nat) (es : List Nat) (c : Dr) : Option Dr :=
  match c.pend, es with
  | [], e :: _ => match nth all e with
    | some o => match o.op with
      | .insert t (.tmp m) _ _ => match E.ty.get t, c.tm.get m with
        | some ti, some (.map id) => match ti.d, c.h.get id with
          | .map kt _, some (.map [] 0) => match insAll E all bef c.tm c.done t m kt es with
            | some kvs => match apartAll E kt kvs && rising es && restBehind E es c.done all bef 0 with
              | true => match drStage E nt all all bef 0 { c with h := c.h.put (some (.map kvs es.length)) id, done := addAll es c.done } with
                | none => none
                | some c' => match drFull E c'.done all bef 0 && drDone all c' with
                  | true => some c'
                  | false => none
              | false => none
            | none => none
          | _, _ => none
        | _, _ => none
      | _ => none
    | none => none
  | _, _ => none

/-- the operations with effects, each behind the last one -/
def drAfter (rec_ : Rec) (nt : Nat) (all : List Oper) (bef : List Nat) : List Nat → Dr → Option Dr
  | [], c => match drDone all c with
    | true => some c
    | false => none
  | e :: es, c => match behind bef e es with
    | true => match drEffStage E rec_ nt all bef e c with
      | none => none
      | some c' => drAfter rec_ nt all bef es c'
    | false => match es with
      | [e2] => drPair E rec_ nt all bef e e2 c
      | es => drIns E nt all bef (e :: es) c

def drGo (rec_ : Rec) (nt : Nat) (all : List Oper) (bef : List Nat) (es : List Nat) (c : Dr) : Option Dr :=
  match drStage E nt all all bef 0 c with
  | none => none
  | some c => match drFull E c.done all bef 0 with
    | false => none
    | true => drAfter E rec_ nt all bef es c

def evDraw (rec_ : Rec) (all : List Oper) (st : St) : Option St :=
  let bef := befGo all []
  match okBef bef all 0 && okDsts all && okTmps bef all all 0 with
  | false => none
  | true => (drGo E rec_ st.nt all bef (effs E all 0) ⟨st.tm, st.heap, st.next, 0, []⟩).map fun c => { st with tm := c.tm, heap := c.h, next := c.nx }

def evStep (rec_ : Rec) (c : Code) (st : St) : Option (Ex × St) :=
  match c with
  | .skip => some (.norm, st)
  | .region _ ops false => (evOps E rec_ ops.toList ops.toList st).map (.norm, ·)
  | .region _ ops true => (evDraw E rec_ ops.toList st).map (.norm, ·)
  | .seq a b => match rec_ a st with
    | some (.norm, st') => rec_ b st'
    | r => r
  | .cond x a b => match evOperand E st.tm x with
    | some (.bool true) => rec_ a st
    | some (.bool false) => rec_ b st
    | _ => none
  | .block id c => match rec_ c st with
    | some (.exit i, st') => match Nat.beq i id with
      | true => some (.norm, st')
      | false => some (.exit i, st')
    | r => r
  | .loop c => match rec_ c st with
    | some (.norm, st') => rec_ (.loop c) st'
    | r => r
  | .scope c => rec_ c st
  | .exit id => some (.exit id, st)
  | .ret => some (.ret, st)
  | _ => none

def ev : Nat → Code → St → Option (Ex × St)
  | 0 => fun _ _ => none
  | n + 1 => fun c st => evStep E (ev n) c st

end
end Ev
end Go.Proofs.YtfmnoohkllmbmaaGreatDoor
