/-
  An interpreter of the model's code over a memory of its own: block numbers of its own, capacities unknown. none: it does not know.
-/
import Derived.Calls
import Derived.Orders
import Derived.KernelRfl
namespace Go.Ai

structure T (α : Type) where
  v : Option α
  l : Option (T α)
  r : Option (T α)

def T.emp {α : Type} : T α := ⟨none, none, none⟩

def T.orEmp {α : Type} : Option (T α) → T α
  | some t => t
  | none => T.emp

/-- what lies at a key -/
def T.get {α : Type} : Nat → T α → Nat → Option α
  | 0, _, _ => none
  | _ + 1, t, 0 => t.v
  | n + 1, t, k + 1 => if k % 2 = 0 then T.get n (T.orEmp t.l) (k / 2) else T.get n (T.orEmp t.r) (k / 2)

/-- a key laid -/
def T.set {α : Type} : Nat → T α → Nat → α → T α
  | 0, t, _, _ => t
  | _ + 1, t, 0, x => ⟨some x, t.l, t.r⟩
  | n + 1, t, k + 1, x => if k % 2 = 0 then ⟨t.v, some (T.set n (T.orEmp t.l) (k / 2) x), t.r⟩ else ⟨t.v, t.l, some (T.set n (T.orEmp t.r) (k / 2) x)⟩

def dep : Nat := 40
def top : Nat := 2 ^ 30

structure Blk where
  size : Nat
  z : List Value
  cells : T Value

structure Hp where
  m : T (Option Blk)
  nx : Nat

abbrev Fr := T Value

def plainCell : Value → Bool
  | .bool _ | .int _ _ | .string _ | .pointer none | .slice none 0 0 => true
  | _ => false

def plain : Value → Bool
  | .agg cs => cs.toList.all plainCell
  | v => plainCell v

/-- g: what the slots hold -/
def ev (g : Nat → Option Value) : Operand → Option Value
  | .tmp t => g t
  | .const v => if plain v then some v else none
  | _ => none

def blk (h : Hp) (id : Nat) : Option Blk :=
  match T.get dep h.m id with
  | some (some b) => some b
  | _ => none

def Blk.at (b : Blk) (o : Nat) : Option Value :=
  if o < b.size then
    match T.get dep b.cells o with
    | some v => some v
    | none => b.z[o % b.z.length]?
  else none

def Blk.take (b : Blk) : Nat → Nat → Option (List Value)
  | _, 0 => some []
  | o, n + 1 => (b.at o).bind fun v => (b.take (o + 1) n).bind fun vs => some (v :: vs)

/-- cells laid one behind the other -/
def lay : List Value → T Value → Nat → T Value
  | [], t, _ => t
  | v :: vs, t, o => lay vs (T.set dep t o v) (o + 1)

def isAggT (P : Program) (t : TypeId) : Option Bool :=
  match P.underlying t with
  | some (.struct _) | some (.array _ _) => some true
  | some _ => some false
  | none => none

def newBlk (h : Hp) (b : Blk) : Option Hp :=
  if h.nx ≤ top then some ⟨T.set dep h.m h.nx (some b), h.nx + 1⟩ else none

def loadV (P : Program) (h : Hp) (t : TypeId) : Value → Option Value
  | .pointer (some ⟨id, o, none⟩) =>
    (blk h id).bind fun b => (isAggT P t).bind fun ag =>
      if ag then (P.info? t).bind fun i => (b.take o i.size).bind fun vs => some (.agg vs.toArray)
      else b.at o
  | _ => none

def cellsOk (vs : List Value) : Bool := vs.all fun | .agg _ | .tuple _ => false | _ => true

def storeV (P : Program) (h : Hp) (t : TypeId) (a x : Value) : Option Hp :=
  match a with
  | .pointer (some ⟨id, o, none⟩) =>
    (blk h id).bind fun b => (P.info? t).bind fun i =>
      if x.cells.size = i.size ∧ o + i.size ≤ b.size ∧ o + i.size ≤ top ∧ cellsOk x.cells.toList then
        some ⟨T.set dep h.m id (some ⟨b.size, b.z, lay x.cells.toList b.cells o⟩), h.nx⟩
      else none
  | _ => none

/-- what a computation that looks at no memory yields -/
def pureOf (P : Program) {α : Type} : Sem α → Option α
  | .pure a => some a
  | .program k => pureOf P (k P)
  | _ => none

def allPlain (g : Nat → Option Value) : List Operand → Bool
  | [] => true
  | x :: xs => (match ev g x with | some v => plain v | none => false) && allPlain g xs

/-- an operation over values that hold no address -/
def plainOp (P : Program) (g : Nat → Option Value) (o : Oper) : Option Value :=
  if allPlain g o.op.operands.toList then
    match pureOf P (execOp (fun x => (ev g x).getD undef) o) with
    | some (.value v) => if plain v then some v else none
    | _ => none
  else none

def fieldV (P : Program) (s : TypeId) (x : Value) (f : Nat) : Option Value :=
  match x, P.underlying s with
  | .pointer (some ⟨id, o, none⟩), some (.struct fs) =>
    (fs[f]?).bind fun fd => (P.info? fd.type).bind fun i => if i.size = 0 then none else some (.pointer (some ⟨id, o + fd.offset, none⟩))
  | _, _ => none

def indexV (P : Program) (t : TypeId) (x ix : Value) : Option Value :=
  match ix, P.underlying t, x with
  | .int _ (.ofNat i), some (.slice e), .slice (some ⟨id, o, none⟩) len _ =>
    (P.info? e).bind fun ti => if i < len then some (.pointer (some ⟨id, o + i * ti.size, none⟩)) else none
  | .int _ (.ofNat i), some (.array len e), .pointer (some ⟨id, o, none⟩) =>
    (P.info? e).bind fun ti => if i < len then some (.pointer (some ⟨id, o + i * ti.size, none⟩)) else none
  | _, _, _ => none

def lenV (P : Program) (t : TypeId) (x : Value) : Option Value :=
  match x, P.underlying t with
  | .slice _ n _, some (.slice _) => some (.int .i64 (.ofNat n))
  | _, _ => none

def boundV (x : Option Value) (d : Nat) : Option Nat :=
  match x with
  | none => some d
  | some (.int _ (.ofNat i)) => some i
  | _ => none

/-- an end that is not given is the length; one that is given is at most the length -/
def sliceV (P : Program) (t : TypeId) (x : Value) (lo hi : Option Value) : Option Value :=
  match x, P.underlying t with
  | .slice (some ⟨id, o, none⟩) len es, some (.slice e) =>
    (boundV lo 0).bind fun l => (boundV hi len).bind fun h => (P.info? e).bind fun i =>
      if l ≤ h ∧ h ≤ len ∧ es = i.size then
        if l = h ∧ 0 < l then some (.slice (some ⟨id, o, some 0⟩) 0 0) else some (.slice (some ⟨id, o + l * es, none⟩) (h - l) es)
      else none
  | _, _ => none

def evs (g : Nat → Option Value) : List Operand → Option (List Value)
  | [] => some []
  | x :: xs => (ev g x).bind fun v => (evs g xs).bind fun vs => some (v :: vs)

def evo (g : Nat → Option Value) : Option Operand → Option (Option Value)
  | none => some none
  | some x => (ev g x).bind fun v => some (some v)

def evp (g : Nat → Option Value) : List (Nat × Operand) → Option (List (Nat × Value))
  | [] => some []
  | p :: ps => (ev g p.2).bind fun v => (evp g ps).bind fun vs => some ((p.1, v) :: vs)

def setL : List Value → Nat → List Value → List Value
  | l, _, [] => l
  | l, o, v :: vs => setL (l.set o v) (o + 1) vs

/-- parts laid into a list of cells -/
def fillL (place : Nat → Option (Nat × Nat)) (cells : List Value) : List (Nat × Value) → Option (List Value)
  | [] => some cells
  | p :: rest =>
    (place p.1).bind fun q => if p.2.cells.size = q.2 ∧ q.1 + q.2 ≤ cells.length ∧ cellsOk p.2.cells.toList then fillL place (setL cells q.1 p.2.cells.toList) rest else none

def places (P : Program) : List Field → Option (List (Nat × Nat))
  | [] => some []
  | f :: fs => (P.info? f.type).bind fun i => (places P fs).bind fun ps => some ((f.offset, i.size) :: ps)

def buildV (P : Program) (t : TypeId) (parts : List (Nat × Value)) : Option Value :=
  (P.info? t).bind fun i => i.zero.bind fun z =>
    if z.cells.toList.all plainCell then
      match P.underlying t with
      | some (.struct fs) => (places P fs.toList).bind fun ps => (fillL (ps[·]?) z.cells.toList parts).bind fun cs => some (.agg cs.toArray)
      | some (.array _ e) => (P.info? e).bind fun j => (fillL (fun i => some (i * j.size, j.size)) z.cells.toList parts).bind fun cs => some (.agg cs.toArray)
      | _ => none
    else none

def layParts (n len : Nat) : List (Nat × Value) → T Value → Option (T Value)
  | [], t => some t
  | p :: ps, t => if p.2.cells.size = n ∧ p.1 < len ∧ cellsOk p.2.cells.toList then layParts n len ps (lay p.2.cells.toList t (p.1 * n)) else none

def buildSliceV (P : Program) (h : Hp) (t : TypeId) (len : Nat) (parts : List (Nat × Value)) : Option (Value × Hp) :=
  match P.underlying t with
  | some (.slice e) => (P.info? e).bind fun i => i.zero.bind fun z =>
      if 0 < len ∧ len * i.size ≤ 2 ^ 20 ∧ z.cells.size = i.size ∧ 0 < i.size ∧ z.cells.toList.all plainCell then
        (layParts i.size len parts T.emp).bind fun c => (newBlk h ⟨len * i.size, z.cells.toList, c⟩).bind fun h' => some (.slice (some ⟨h.nx, 0, none⟩) len i.size, h')
      else none
  | _ => none

def makeV (P : Program) (h : Hp) (t : TypeId) (len cap : Value) : Option (Value × Hp) :=
  match P.underlying t, len, cap with
  | some (.slice e), .int _ (.ofNat l), .int _ (.ofNat c) => (P.info? e).bind fun i => i.zero.bind fun z =>
      if l ≤ c ∧ c * i.size ≤ top ∧ i.bytes * c ≤ top ∧ c ≤ top ∧ z.cells.size = i.size ∧ 0 < i.size ∧ z.cells.toList.all plainCell then
        (newBlk h ⟨c * i.size, z.cells.toList, T.emp⟩).bind fun h' => some (.slice (some ⟨h.nx, 0, none⟩) l i.size, h')
      else none
  | _, _, _ => none

/-- the cells of the first n values of what is appended or copied -/
def firstV (h : Hp) (size n : Nat) : Value → Option (List Value)
  | .slice (some ⟨id, o, none⟩) len _ => if n ≤ len then (blk h id).bind fun b => b.take o (n * size) else none
  | _ => none

def appendV (P : Program) (h : Hp) (st xt : TypeId) (s x : Value) : Option (Value × Hp) :=
  match P.underlying st, P.underlying xt, s, x with
  | some (.slice e), some (.slice _), .slice sa len sc, .slice _ n _ => (P.info? e).bind fun i => i.zero.bind fun z =>
      if n = 0 then some (s, h)
      else (firstV h i.size n x).bind fun new =>
        if z.cells.size = i.size ∧ 0 < i.size ∧ i.bytes ≤ 1000 ∧ (len + n) * i.size ≤ top then
          match sa with
          | none => if len = 0 ∧ sc = 0 then
              (newBlk h ⟨n * i.size, z.cells.toList, lay new T.emp 0⟩).bind fun h' => some (.slice (some ⟨h.nx, 0, none⟩) n i.size, h')
            else none
          | some ⟨id, o, none⟩ => (blk h id).bind fun b =>
            if sc = i.size ∧ o + len * i.size ≤ b.size then
              if o = 0 then
                (newBlk ⟨T.set dep h.m id none, h.nx⟩ ⟨(len + n) * i.size, b.z, lay new b.cells (len * i.size)⟩).bind fun h' => some (.slice (some ⟨h.nx, 0, none⟩) (len + n) i.size, h')
              else (b.take o (len * i.size)).bind fun old =>
                (newBlk ⟨T.set dep h.m id none, h.nx⟩ ⟨(len + n) * i.size, z.cells.toList, lay (old ++ new) T.emp 0⟩).bind fun h' => some (.slice (some ⟨h.nx, 0, none⟩) (len + n) i.size, h')
            else none
          | _ => none
        else none
  | _, _, _, _ => none

def copyV (P : Program) (h : Hp) (dt : TypeId) (d s : Value) : Option (Value × Hp) :=
  match P.underlying dt, d, s with
  | some (.slice e), .slice a dl _, .slice _ sl _ => (P.info? e).bind fun i =>
      if Nat.min sl dl = 0 then some (.int .i64 (.ofNat 0), h)
      else match a with
        | some ⟨id, o, none⟩ => (firstV h i.size (Nat.min sl dl) s).bind fun new => (blk h id).bind fun b =>
          if o + Nat.min sl dl * i.size ≤ b.size ∧ o + Nat.min sl dl * i.size ≤ top then
            some (.int .i64 (.ofNat (Nat.min sl dl)), ⟨T.set dep h.m id (some ⟨b.size, b.z, lay new b.cells o⟩), h.nx⟩)
          else none
        | _ => none
  | _, _, _ => none

def boxV (h : Hp) (x : Value) : Option (Value × Hp) :=
  if cellsOk x.cells.toList then (newBlk h ⟨x.cells.size, x.cells.toList, T.emp⟩).bind fun h' => some (.pointer (some ⟨h.nx, 0, none⟩), h') else none

def nilV (x : Value) : Option Value :=
  match x with
  | .pointer (some a) => some (.pointer (some a))
  | _ => none

def extractV (x : Value) (i : Nat) : Option Value :=
  match x with
  | .tuple vs => vs[i]?
  | _ => none

def isW : Op → Bool
  | .alloc _ | .box .. | .buildSlice .. | .store .. | .makeSlice .. => true
  | .call { callee := .builtin .len, .. } => false
  | .call _ => true
  | _ => false

/-- an operation that changes nothing -/
def rop (P : Program) (g : Nat → Option Value) (h : Hp) (o : Oper) : Option Value :=
  match o.op with
  | .move x => ev g x
  | .assign x => ev g x
  | .pick c a b => match ev g c with
    | some (.bool true) => ev g a
    | some (.bool false) => ev g b
    | _ => none
  | .load t a => (ev g a).bind (loadV P h t)
  | .nilCheck x => (ev g x).bind nilV
  | .build t ps => (evp g ps.toList).bind (buildV P t)
  | .slice t x lo hi none => (ev g x).bind fun v => match v with
    | .slice (some _) _ _ => (evo g lo).bind fun l => (evo g hi).bind fun h => sliceV P t v l h
    | _ => plainOp P g o
  | .fieldAddr s x i => (ev g x).bind fun v => fieldV P s v i
  | .indexAddr t x i => (ev g x).bind fun v => (ev g i).bind fun j => indexV P t v j
  | .extract x i => (ev g x).bind fun v => extractV v i
  | .call { callee := .builtin .len, args, argTypes } => match args.toList, argTypes.toList with
    | [x], [t] => (ev g x).bind fun v => match v with
      | .slice .. => lenV P t v
      | _ => plainOp P g o
    | _, _ => none
  | .binOp .. | .unOp .. | .convert .. | .index .. => plainOp P g o
  | _ => none

/-- an operation that changes memory -/
def wop (P : Program) (call : FuncId → List Value → Hp → Option (Value × Hp)) (g : Nat → Option Value) (h : Hp) (o : Oper) : Option (Value × Hp) :=
  match o.op with
  | .alloc t => (P.info? t).bind fun i => i.zero.bind fun z => if z.cells.toList.all plainCell then boxV h z else none
  | .box _ x => (ev g x).bind fun v => boxV h v
  | .buildSlice t n ps => (evp g ps.toList).bind fun vs => buildSliceV P h t n vs
  | .store t a x => (ev g a).bind fun v => (ev g x).bind fun y => (storeV P h t v y).bind fun h' => some (undef, h')
  | .makeSlice t l c => (ev g l).bind fun v => (ev g c).bind fun y => makeV P h t v y
  | .call { callee := .builtin .append, args, argTypes } => match args.toList, argTypes.toList with
    | [s, x], [t, u] => (ev g s).bind fun v => (ev g x).bind fun y => appendV P h t u v y
    | _, _ => none
  | .call { callee := .builtin .copy, args, argTypes } => match args.toList, argTypes.toList with
    | [d, s], [t, _] => (ev g d).bind fun v => (ev g s).bind fun y => copyV P h t v y
    | _, _ => none
  | .call { callee := .value (.func k), args, .. } => (evs g args.toList).bind fun vs => call k vs h
  | _ => none

/-- is the operation carried out? none: not known -/
def wants (ops : Array Oper) (g : Nat → Option Value) (o : Oper) : Option Bool :=
  match o.guard with
  | none => some true
  | some (j, want) => (ops[j]?).bind fun oj => oj.dst.bind fun t => (g t).bind fun v => match v with
    | .bool b => some (b == want)
    | .tuple _ => some false
    | _ => none

def put (f : Fr) (d : Option Nat) (v : Value) : Fr :=
  match d with
  | some d => T.set dep f d v
  | none => f

/-- what operation o yields, and the memory behind it -/
def step (P : Program) (call : FuncId → List Value → Hp → Option (Value × Hp)) (all : Array Oper) (g : Nat → Option Value) (h : Hp) (o : Oper) : Option (Value × Hp) :=
  (wants all g o).bind fun b =>
    if b then
      if isW o.op then wop P call g h o else (rop P g h o).bind fun v => some (v, h)
    else some (undef, h)

def seqOps (P : Program) (call : FuncId → List Value → Hp → Option (Value × Hp)) (all : Array Oper) : List Oper → Fr → Hp → Option (Fr × Hp)
  | [], f, h => some (f, h)
  | o :: ops, f, h => (step P call all (T.get dep f) h o).bind fun r => seqOps P call all ops (put f o.dst r.1) r.2

/-- the states ahead of each operation, and what it yields -/
def trace (P : Program) (call : FuncId → List Value → Hp → Option (Value × Hp)) (all : Array Oper) : List Oper → Fr → Hp → Option (List (Fr × Hp × Value))
  | [], f, h => some [(f, h, undef)]
  | o :: ops, f, h => (step P call all (T.get dep f) h o).bind fun r => (trace P call all ops (put f o.dst r.1) r.2).bind fun l => some ((f, h, r.1) :: l)

/-- for each operation the set of those that come ahead of it, as bits -/
def befores : List Oper → List Nat → List Nat
  | [], acc => acc
  | o :: ops, acc => befores ops (acc ++ [o.after.toList.foldl (fun s e => if Region.binds .any e then s ||| (1 <<< e.on) ||| acc.getD e.on 0 else s) 0])

def isLoad : Op → Bool
  | .load .. => true
  | _ => false

/-- may these two come in either order? -/
def loose (bf : List Nat) (i j : Nat) : Bool := !((bf.getD j 0).testBit i) && !((bf.getD i 0).testBit j)

def upto (n : Nat) : List Nat := List.range n

/-- what a region that draws its order must keep to -/
def drawOk (ops : Array Oper) (bf : List Nat) : Bool :=
  (upto ops.size).all fun j => match ops[j]? with
    | none => false
    | some oj =>
      (oj.after.toList.all fun e => !Region.binds .any e || decide (e.on < j)) &&
      (upto j).all fun i => match ops[i]? with
        | none => false
        | some oi =>
          ((bf.getD j 0).testBit i) ||
          (oi.apart ops oj && !(isW oi.op && isW oj.op))

/-- the pairs (load, writer) that may come in either order -/
def pairs (ops : Array Oper) (bf : List Nat) : List (Nat × Nat) :=
  (upto ops.size).flatMap fun i => (upto ops.size).filterMap fun j =>
    match ops[i]?, ops[j]? with
    | some oi, some oj => if isLoad oi.op && isW oj.op && loose bf i j then some (i, j) else none
    | _, _ => none

def ceq : Value → Value → Bool
  | .bool a, .bool b => a == b
  | .int k a, .int k' b => decide (k = k') && decide (a = b)
  | .pointer a, .pointer b => decide (a = b)
  | .slice a l c, .slice a' l' c' => decide (a = a') && decide (l = l') && decide (c = c')
  | .string a, .string b => decide (a.data.toList = b.data.toList)
  | _, _ => false

def leq : List Value → List Value → Bool
  | [], [] => true
  | x :: xs, y :: ys => ceq x y && leq xs ys
  | _, _ => false

def veq : Value → Value → Bool
  | .agg xs, .agg ys => leq xs.toList ys.toList
  | x, y => ceq x y

/-- does the load yield the same ahead of the writer and behind it? -/
def again (P : Program) (ops : Array Oper) (tr : List (Fr × Hp × Value)) (p : Nat × Nat) : Bool :=
  match ops[p.1]?, tr[p.1]?, tr[p.2]?, tr[p.2 + 1]? with
  | some oi, some (f, _, v), some (_, h1, _), some (_, h2, _) =>
    (match wants ops (T.get dep f) oi with
     | some true =>
       (match rop P (T.get dep f) h1 oi with | some u => veq u v | none => false) &&
       (match rop P (T.get dep f) h2 oi with | some u => veq u v | none => false)
     | some false => true
     | none => false)
  | _, _, _, _ => false

def drawOps (P : Program) (call : FuncId → List Value → Hp → Option (Value × Hp)) (ops : Array Oper) (f : Fr) (h : Hp) : Option (Fr × Hp) :=
  if drawOk ops (befores ops.toList []) then
    match pairs ops (befores ops.toList []) with
    | [] => seqOps P call ops ops.toList f h
    | ps => (trace P call ops ops.toList f h).bind fun tr => if ps.all (again P ops tr) then seqOps P call ops ops.toList f h else none
  else none

def resultsOf (P : Program) (f : Fr) (h : Hp) : List ResultVar → Option (List Value)
  | [] => some []
  | .tmp t :: rs => (T.get dep f t).bind fun v => (resultsOf P f h rs).bind fun vs => some (v :: vs)
  | .cell a t :: rs => (T.get dep f a).bind fun p => (loadV P h t p).bind fun v => (resultsOf P f h rs).bind fun vs => some (v :: vs)

def noTuple : Value → Bool
  | .tuple _ => false
  | _ => true

def answer : List Value → Option Value
  | [v] => some v
  | vs => if vs.all noTuple then some (.tuple vs.toArray) else none

/-- all slots that are written are there -/
def dsts (nt : Nat) : Code → Bool
  | .region _ ops _ => ops.toList.all fun o => match o.dst with | some d => decide (d < nt) | none => true
  | .seq a b => dsts nt a && dsts nt b
  | .cond _ a b => dsts nt a && dsts nt b
  | .block _ b => dsts nt b
  | .loop b => dsts nt b
  | _ => true

def callF (P : Program) (ih : Code → Fr → Hp → Option (Exit × Fr × Hp)) (k : FuncId) (args : List Value) (h : Hp) : Option (Value × Hp) :=
  (P.funcs[k]?).bind fun fn => fn.body.bind fun c => if fn.name == "runtime.NumGoroutine" || !dsts fn.ntmps c || decide (1000 < args.length) then none else (ih c (lay args T.emp 0) h).bind fun r =>
    match r.1 with
    | .ret | .normal => (resultsOf P r.2.1 r.2.2 fn.results.toList).bind fun vs => (answer vs).bind fun v => some (v, r.2.2)
    | _ => none

/-- calls whose answers are known, and the others -/
def callG (P : Program) (ov : FuncId → List Value → Option Value) (ih : Code → Fr → Hp → Option (Exit × Fr × Hp)) (k : FuncId) (args : List Value) (h : Hp) : Option (Value × Hp) :=
  match ov k args with
  | some v => some (v, h)
  | none => callF P ih k args h

def exec (P : Program) (ov : FuncId → List Value → Option Value) : Nat → Code → Fr → Hp → Option (Exit × Fr × Hp)
  | 0, _, _, _ => none
  | _ + 1, .skip, f, h => some (.normal, f, h)
  | n + 1, .region _ ops d, f, h => (if d then drawOps P (callG P ov (exec P ov n)) ops f h else seqOps P (callG P ov (exec P ov n)) ops ops.toList f h).bind fun r => some (.normal, r.1, r.2)
  | n + 1, .seq a b, f, h => (exec P ov n a f h).bind fun r => match r.1 with
    | .normal => exec P ov n b r.2.1 r.2.2
    | _ => some r
  | n + 1, .cond x a b, f, h => match ev (T.get dep f) x with
    | some (.bool true) => exec P ov n a f h
    | some (.bool false) => exec P ov n b f h
    | _ => none
  | n + 1, .block id b, f, h => (exec P ov n b f h).bind fun r => match r.1 with
    | .exit j => if j = id then some (.normal, r.2.1, r.2.2) else some r
    | _ => some r
  | n + 1, .loop b, f, h => (exec P ov n b f h).bind fun r => match r.1 with
    | .normal => exec P ov n (.loop b) r.2.1 r.2.2
    | _ => some r
  | _ + 1, .exit id, f, h => some (.exit id, f, h)
  | _ + 1, .ret, f, h => some (.ret, f, h)
  | _ + 1, _, _, _ => none

end Go.Ai
