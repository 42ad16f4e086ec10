/-
  The interpreter once more, as the kernel runs it fast: each choice a recursor, each step hands on to the next. (laid by mkai.py)
-/
import Derived.Test.YtbbglffodmigiaaGreatDoorAiA
namespace Go.Ai

def getK {α : Type} (n : Nat) : T α → Nat → (α → Prop) → Prop :=
  @Nat.rec (fun _ => T α → Nat → (α → Prop) → Prop) (fun _ _ _ => False)
    (fun _ ih t k K => (@T.rec _ (fun _ => Prop) (fun _ => Prop) (fun v l r _ _ => (@Nat.rec (fun _ => Prop) ((@Option.rec (α) (fun _ => Prop) (False) (K) (v))) (fun k _ => (@Bool.rec (fun _ => Prop) ((@Option.rec (T α) (fun _ => Prop) (False) (fun s => ih s (Nat.div k 2) K) (r))) ((@Option.rec (T α) (fun _ => Prop) (False) (fun s => ih s (Nat.div k 2) K) (l))) (Nat.beq (Nat.mod k 2) 0))) (k))) False (fun _ _ => False) (t))) n

def getO {α : Type} (n : Nat) : T α → Nat → Prop → (α → Prop) → Prop :=
  @Nat.rec (fun _ => T α → Nat → Prop → (α → Prop) → Prop) (fun _ _ N _ => N)
    (fun _ ih t k N K => (@T.rec _ (fun _ => Prop) (fun _ => Prop) (fun v l r _ _ => (@Nat.rec (fun _ => Prop) ((@Option.rec (α) (fun _ => Prop) (N) (K) (v))) (fun k _ => (@Bool.rec (fun _ => Prop) ((@Option.rec (T α) (fun _ => Prop) (N) (fun s => ih s (Nat.div k 2) N K) (r))) ((@Option.rec (T α) (fun _ => Prop) (N) (fun s => ih s (Nat.div k 2) N K) (l))) (Nat.beq (Nat.mod k 2) 0))) (k))) False (fun _ _ => False) (t))) n

def setK {α : Type} (n : Nat) : T α → Nat → α → (T α → Prop) → Prop :=
  @Nat.rec (fun _ => T α → Nat → α → (T α → Prop) → Prop) (fun t _ _ K => K t)
    (fun _ ih t k x K => (@T.rec _ (fun _ => Prop) (fun _ => Prop) (fun v l r _ _ => (@Nat.rec (fun _ => Prop) (K ⟨some x, l, r⟩) (fun k _ => (@Bool.rec (fun _ => Prop) ((@Option.rec (T α) (fun _ => Prop) (ih T.emp (Nat.div k 2) x (fun s => K ⟨v, l, some s⟩)) (fun t => ih t (Nat.div k 2) x (fun s => K ⟨v, l, some s⟩)) (r))) ((@Option.rec (T α) (fun _ => Prop) (ih T.emp (Nat.div k 2) x (fun s => K ⟨v, some s, r⟩)) (fun t => ih t (Nat.div k 2) x (fun s => K ⟨v, some s, r⟩)) (l))) (Nat.beq (Nat.mod k 2) 0))) (k))) False (fun _ _ => False) (t))) n

def evK (f : Fr) (x : Operand) (K : Value → Prop) : Prop :=
  @Operand.rec (fun _ => Prop) (fun t => getK 40 f t K) (fun v => (@Bool.rec (fun _ => Prop) (False) (K v) (plain v))) (fun _ => False) (fun _ => False) x

def blkK (h : Hp) (id : Nat) (K : Blk → Prop) : Prop :=
  getK 40 h.m id fun b => (@Option.rec (Blk) (fun _ => Prop) (False) (K) (b))

def forceK (n : Nat) (K : Nat → Prop) : Prop := @Nat.rec (fun _ => Prop) (K 0) (fun m _ => K (Nat.succ m)) n

def zK (z : List Value) (o : Nat) (K : Value → Prop) : Prop := match z[Nat.mod o z.length]? with | some v => K v | none => False

def atK (b : Blk) (o : Nat) (K : Value → Prop) : Prop :=
  (@Blk.rec (fun _ => Prop) (fun bs bz bc => (@Bool.rec (fun _ => Prop) (False) (getO 40 bc o (zK bz o K) K) (Nat.ble (Nat.succ o) bs))) (b))

def takeK (b : Blk) (n : Nat) : Nat → (List Value → Prop) → Prop :=
  @Nat.rec (fun _ => Nat → (List Value → Prop) → Prop) (fun _ K => K [])
    (fun _ ih o K => atK b o fun v => ih (Nat.succ o) fun vs => K (v :: vs)) n

def layK (n : Nat) : List Value → T Value → Nat → (T Value → Prop) → Prop :=
  @Nat.rec (fun _ => List Value → T Value → Nat → (T Value → Prop) → Prop) (fun _ _ _ _ => False)
    (fun _ ih vs t o K => (@List.rec (Value) (fun _ => Prop) (K t) (fun v vs _ => setK 40 t o v fun t => ih vs t (Nat.succ o) K) (vs))) n

def loadB (P : Program) (t : TypeId) (b : Blk) (o : Nat) (K : Value → Prop) : Prop :=
  match isAggT P t with
  | some true => (match P.info? t with
    | some i => takeK b i.size o fun vs => K (.agg vs.toArray)
    | none => False)
  | some false => atK b o K
  | none => False

def loadK (P : Program) (h : Hp) (t : TypeId) (p : Value) (K : Value → Prop) : Prop :=
  (@Value.rec (fun _ => Prop) (fun _ => Prop) (fun _ => Prop) (fun _ => False) (fun _ _ => False) (fun _ _ => False) (fun _ _ _ => False) (fun _ => False) (fun a => (@Option.rec (Addr) (fun _ => Prop) (False) (fun ad => @Addr.rec (fun _ => Prop) (fun id o sp => (@Option.rec (Nat) (fun _ => Prop) (blkK h id fun b => loadB P t b o K) (fun _ => False) (sp))) ad) (a))) (fun _ _ _ => False) (fun _ => False) (fun _ => False) (fun _ _ _ _ _ => False) (False) (fun _ _ _ => False) (False) (fun _ _ => False) (fun _ _ => False) (fun _ _ => False) False (fun _ _ _ _ => False) (p))

def andK (a : Bool) (b : Bool) : Bool := match a with | true => b | false => false

def storeB (P : Program) (t : TypeId) (hm : T (Option Blk)) (nx : Nat) (id o : Nat) (x : Value) (b : Blk) (K : Hp → Prop) : Prop :=
  match P.info? t with
  | some i => (@Blk.rec (fun _ => Prop) (fun bs bz bc => (@Bool.rec (fun _ => Prop) (False) (layK 10000 x.cells.toList bc o fun c => setK 40 hm id (some ⟨bs, bz, c⟩) fun m => K ⟨m, nx⟩) (andK (Nat.beq x.cells.toList.length i.size) (andK (Nat.ble (Nat.add o i.size) bs) (andK (Nat.ble (Nat.add o i.size) 1073741824) (cellsOk x.cells.toList)))))) (b))
  | none => False

def storeK (P : Program) (h : Hp) (t : TypeId) (a x : Value) (K : Hp → Prop) : Prop :=
  (@Value.rec (fun _ => Prop) (fun _ => Prop) (fun _ => Prop) (fun _ => False) (fun _ _ => False) (fun _ _ => False) (fun _ _ _ => False) (fun _ => False) (fun a => (@Option.rec (Addr) (fun _ => Prop) (False) (fun ad => @Addr.rec (fun _ => Prop) (fun id o sp => (@Option.rec (Nat) (fun _ => Prop) ((@Hp.rec (fun _ => Prop) (fun hm nx => getK 40 hm id fun b => (@Option.rec (Blk) (fun _ => Prop) (False) (fun b => storeB P t hm nx id o x b K) (b))) (h))) (fun _ => False) (sp))) ad) (a))) (fun _ _ _ => False) (fun _ => False) (fun _ => False) (fun _ _ _ _ _ => False) (False) (fun _ _ _ => False) (False) (fun _ _ => False) (fun _ _ => False) (fun _ _ => False) False (fun _ _ _ _ => False) (a))

def limit (k : IntKind) : Nat := match k with | .i64 => 9223372036854775808 | .u64 => 18446744073709551616 | _ => 0

def intK (k : IntKind) (i : Int) (K : Value → Prop) : Prop :=
  (@Int.rec (fun _ => Prop) (fun m => forceK m fun m => K (.int k (.ofNat m))) (fun m => forceK m fun m => K (.int k (.negSucc m))) (i))

/-- a number, wrapped -/
def wrapK (k : IntKind) (i : Int) (K : Value → Prop) : Prop :=
  (@Int.rec (fun _ => Prop) (fun m => (@Bool.rec (fun _ => Prop) (forceK m fun m => K (.int k (.ofNat m))) (intK k (k.wrap (.ofNat m)) K) (Nat.ble (limit k) m))) (fun m => intK k (k.wrap (.negSucc m)) K) (i))

def boolK (b : Bool) (K : Value → Prop) : Prop := (@Bool.rec (fun _ => Prop) (K (.bool false)) (K (.bool true)) (b))

def leK (a b : Int) (A N : Prop) : Prop :=
  (@Int.rec (fun _ => Prop) (fun a => (@Int.rec (fun _ => Prop) (fun b => (@Bool.rec (fun _ => Prop) (N) (A) (Nat.ble a b))) (fun _ => N) (b))) (fun a => (@Int.rec (fun _ => Prop) (fun _ => A) (fun b => (@Bool.rec (fun _ => Prop) (N) (A) (Nat.ble b a))) (b))) (a))

def eqK (a b : Int) (A N : Prop) : Prop :=
  (@Int.rec (fun _ => Prop) (fun a => (@Int.rec (fun _ => Prop) (fun b => (@Bool.rec (fun _ => Prop) (N) (A) (Nat.beq a b))) (fun _ => N) (b))) (fun a => (@Int.rec (fun _ => Prop) (fun _ => N) (fun b => (@Bool.rec (fun _ => Prop) (N) (A) (Nat.beq a b))) (b))) (a))

def kindB (k k' : IntKind) : Bool :=
  match k, k' with
  | .i64, .i64 => true
  | .u64, .u64 => true
  | .u8, .u8 => true
  | _, _ => false

def nAdd (k : IntKind) (a b : Int) (_ : Prop) (K : Value → Prop) : Prop := wrapK k (Int.add a b) K
def nSub (k : IntKind) (a b : Int) (_ : Prop) (K : Value → Prop) : Prop := wrapK k (Int.sub a b) K
def nMul (k : IntKind) (a b : Int) (_ : Prop) (K : Value → Prop) : Prop := wrapK k (Int.mul a b) K
def nEql (_ : IntKind) (a b : Int) (_ : Prop) (K : Value → Prop) : Prop := eqK a b (K (.bool true)) (K (.bool false))
def nNeq (_ : IntKind) (a b : Int) (_ : Prop) (K : Value → Prop) : Prop := eqK a b (K (.bool false)) (K (.bool true))
def nLss (_ : IntKind) (a b : Int) (_ : Prop) (K : Value → Prop) : Prop := leK b a (K (.bool false)) (K (.bool true))
def nLeq (_ : IntKind) (a b : Int) (_ : Prop) (K : Value → Prop) : Prop := leK a b (K (.bool true)) (K (.bool false))
def nGtr (_ : IntKind) (a b : Int) (_ : Prop) (K : Value → Prop) : Prop := leK a b (K (.bool false)) (K (.bool true))
def nGeq (_ : IntKind) (a b : Int) (_ : Prop) (K : Value → Prop) : Prop := leK b a (K (.bool true)) (K (.bool false))
def nElse (_ : IntKind) (_ _ : Int) (E : Prop) (_ : Value → Prop) : Prop := E

/-- two numbers; else the model's own words -/
def numK (op : BinOp) : IntKind → Int → Int → Prop → (Value → Prop) → Prop :=
  @BinOp.rec (fun _ => IntKind → Int → Int → Prop → (Value → Prop) → Prop) nAdd nSub nMul nElse nElse nElse nElse nElse nElse nElse nElse nEql nNeq nLss nLeq nGtr nGeq op

def optK (x : Option Value) (K : Value → Prop) : Prop := match x with | some v => K v | none => False

def intsK (op : BinOp) (k : IntKind) (a : Int) (b : Value) (E : Prop) (K : Value → Prop) : Prop :=
  (@Value.rec (fun _ => Prop) (fun _ => Prop) (fun _ => Prop) (fun _ => False) (fun k2 b => (@Bool.rec (fun _ => Prop) (E) (numK op k a b E K) (kindB k k2))) (fun _ _ => False) (fun _ _ _ => False) (fun _ => False) (fun _ => False) (fun _ _ _ => False) (fun _ => False) (fun _ => False) (fun _ _ _ _ _ => False) (False) (fun _ _ _ => False) (False) (fun _ _ => False) (fun _ _ => False) (fun _ _ => False) False (fun _ _ _ _ => False) (b))

def twoK (op : BinOp) (a b : Value) (E : Prop) (K : Value → Prop) : Prop :=
  (@Value.rec (fun _ => Prop) (fun _ => Prop) (fun _ => Prop) (fun _ => E) (fun k a => intsK op k a b E K) (fun _ _ => E) (fun _ _ _ => E) (fun _ => E) (fun _ => E) (fun _ _ _ => E) (fun _ => E) (fun _ => E) (fun _ _ _ _ _ => E) (E) (fun _ _ _ => E) (E) (fun _ _ => E) (fun _ _ => E) (fun _ _ => False) False (fun _ _ _ _ => False) (a))

def binK (P : Program) (f : Fr) (o : Oper) (op : BinOp) (x y : Operand) (K : Value → Prop) : Prop :=
  evK f x fun a => evK f y fun b => twoK op a b (optK (plainOp P (T.get dep f) o) K) K

def fieldO (P : Program) (s : TypeId) (i : Nat) : Option Nat :=
  match P.underlying s with
  | some (.struct fs) => (match fs[i]? with
    | some fd => (match P.info? fd.type with
      | some ti => (match Nat.beq ti.size 0 with | true => none | false => some fd.offset)
      | none => none)
    | none => none)
  | _ => none

def fieldK (P : Program) (s : TypeId) (x : Value) (i : Nat) (K : Value → Prop) : Prop :=
  (@Value.rec (fun _ => Prop) (fun _ => Prop) (fun _ => Prop) (fun _ => False) (fun _ _ => False) (fun _ _ => False) (fun _ _ _ => False) (fun _ => False) (fun a => (@Option.rec (Addr) (fun _ => Prop) (False) (fun ad => @Addr.rec (fun _ => Prop) (fun id o sp => (@Option.rec (Nat) (fun _ => Prop) ((@Option.rec (Nat) (fun _ => Prop) (False) (fun k => forceK (Nat.add o k) fun o => K (.pointer (some ⟨id, o, none⟩))) (fieldO P s i))) (fun _ => False) (sp))) ad) (a))) (fun _ _ _ => False) (fun _ => False) (fun _ => False) (fun _ _ _ _ _ => False) (False) (fun _ _ _ => False) (False) (fun _ _ => False) (fun _ _ => False) (fun _ _ => False) False (fun _ _ _ _ => False) (x))

def elemO (P : Program) (t : TypeId) : Option Nat :=
  match P.underlying t with
  | some (.slice e) => (match P.info? e with | some ti => some ti.size | none => none)
  | _ => none

def arrO (P : Program) (t : TypeId) : Option (Nat × Nat) :=
  match P.underlying t with
  | some (.array len e) => (match P.info? e with | some ti => some (len, ti.size) | none => none)
  | _ => none

def indexN (P : Program) (t : TypeId) (x : Value) (i : Nat) (K : Value → Prop) : Prop :=
  (@Value.rec (fun _ => Prop) (fun _ => Prop) (fun _ => Prop) (fun _ => False) (fun _ _ => False) (fun _ _ => False) (fun _ _ _ => False) (fun _ => False) (fun a => (@Option.rec (Addr) (fun _ => Prop) (False) (fun ad => @Addr.rec (fun _ => Prop) (fun id o sp => (@Option.rec (Nat) (fun _ => Prop) ((@Option.rec (Nat × Nat) (fun _ => Prop) (False) (fun q => (@Bool.rec (fun _ => Prop) (False) (forceK (Nat.add o (Nat.mul i q.2)) fun o => K (.pointer (some ⟨id, o, none⟩))) (Nat.ble (Nat.succ i) q.1))) (arrO P t))) (fun _ => False) (sp))) ad) (a))) (fun a len _ => (@Option.rec (Addr) (fun _ => Prop) (False) (fun ad => @Addr.rec (fun _ => Prop) (fun id o sp => (@Option.rec (Nat) (fun _ => Prop) ((@Option.rec (Nat) (fun _ => Prop) (False) (fun s => (@Bool.rec (fun _ => Prop) (False) (forceK (Nat.add o (Nat.mul i s)) fun o => K (.pointer (some ⟨id, o, none⟩))) (Nat.ble (Nat.succ i) len))) (elemO P t))) (fun _ => False) (sp))) ad) (a))) (fun _ => False) (fun _ => False) (fun _ _ _ _ _ => False) (False) (fun _ _ _ => False) (False) (fun _ _ => False) (fun _ _ => False) (fun _ _ => False) False (fun _ _ _ _ => False) (x))

def indexK (P : Program) (t : TypeId) (x j : Value) (K : Value → Prop) : Prop :=
  (@Value.rec (fun _ => Prop) (fun _ => Prop) (fun _ => Prop) (fun _ => False) (fun _ i => (@Int.rec (fun _ => Prop) (fun i => indexN P t x i K) (fun _ => False) (i))) (fun _ _ => False) (fun _ _ _ => False) (fun _ => False) (fun _ => False) (fun _ _ _ => False) (fun _ => False) (fun _ => False) (fun _ _ _ _ _ => False) (False) (fun _ _ _ => False) (False) (fun _ _ => False) (fun _ _ => False) (fun _ _ => False) False (fun _ _ _ _ => False) (j))

def isSliceT (P : Program) (t : TypeId) : Bool := match P.underlying t with | some (.slice _) => true | _ => false

def lenK (P : Program) (t : TypeId) (v : Value) (E : Prop) (K : Value → Prop) : Prop :=
  (@Value.rec (fun _ => Prop) (fun _ => Prop) (fun _ => Prop) (fun _ => E) (fun _ _ => E) (fun _ _ => E) (fun _ _ _ => E) (fun _ => E) (fun _ => E) (fun _ n _ => (@Bool.rec (fun _ => Prop) (False) (forceK n fun n => K (.int .i64 (.ofNat n))) (isSliceT P t))) (fun _ => E) (fun _ => E) (fun _ _ _ _ _ => E) (E) (fun _ _ _ => E) (E) (fun _ _ => E) (fun _ _ => E) (fun _ _ => False) False (fun _ _ _ _ => False) (v))

def nilK (v : Value) (K : Value → Prop) : Prop := (@Value.rec (fun _ => Prop) (fun _ => Prop) (fun _ => Prop) (fun _ => False) (fun _ _ => False) (fun _ _ => False) (fun _ _ _ => False) (fun _ => False) (fun a => (@Option.rec (Addr) (fun _ => Prop) (False) (fun a => K (.pointer (some a))) (a))) (fun _ _ _ => False) (fun _ => False) (fun _ => False) (fun _ _ _ _ _ => False) (False) (fun _ _ _ => False) (False) (fun _ _ => False) (fun _ _ => False) (fun _ _ => False) False (fun _ _ _ _ => False) (v))

def pickK (v : Value) (A N : Prop) : Prop := (@Value.rec (fun _ => Prop) (fun _ => Prop) (fun _ => Prop) (fun b => (@Bool.rec (fun _ => Prop) (N) (A) (b))) (fun _ _ => False) (fun _ _ => False) (fun _ _ _ => False) (fun _ => False) (fun _ => False) (fun _ _ _ => False) (fun _ => False) (fun _ => False) (fun _ _ _ _ _ => False) (False) (fun _ _ _ => False) (False) (fun _ _ => False) (fun _ _ => False) (fun _ _ => False) False (fun _ _ _ _ => False) (v))

def lensK (P : Program) (f : Fr) (o : Oper) (args : List Operand) (argTypes : List TypeId) (K : Value → Prop) : Prop :=
  match args, argTypes with
  | [x], [t] => evK f x fun v => lenK P t v (optK (plainOp P (T.get dep f) o) K) K
  | _, _ => False

def putK (f : Fr) (d : Option Nat) (v : Value) (K : Fr → Prop) : Prop := (@Option.rec (Nat) (fun _ => Prop) (K f) (fun d => setK 40 f d v K) (d))

def evsK (f : Fr) (n : Nat) : List Operand → (List Value → Prop) → Prop :=
  @Nat.rec (fun _ => List Operand → (List Value → Prop) → Prop) (fun _ _ => False)
    (fun _ ih xs K => (@List.rec (Operand) (fun _ => Prop) (K []) (fun x xs _ => evK f x fun v => ih xs fun vs => K (v :: vs)) (xs))) n

end Go.Ai
