/-
  The fast interpreter: operations that change memory, code, calls. (laid by mkai.py)
-/
import Derived.Test.YtbbglffodmigiaaGreatDoorAiQ
namespace Go.Ai

def newK (h : Hp) (b : Blk) (K : Nat → Hp → Prop) : Prop :=
  (@Hp.rec (fun _ => Prop) (fun hm nx => (@Bool.rec (fun _ => Prop) (False) (setK 40 hm nx (some b) fun m => forceK (Nat.succ nx) fun nx2 => K nx ⟨m, nx2⟩) (Nat.ble nx 1073741824))) (h))

def boxK (h : Hp) (x : Value) (K : Value → Hp → Prop) : Prop :=
  (@Bool.rec (fun _ => Prop) (False) (newK h ⟨x.cells.toList.length, x.cells.toList, T.emp⟩ fun id h => K (.pointer (some ⟨id, 0, none⟩)) h) (cellsOk x.cells.toList))

def evpK (f : Fr) (n : Nat) : List (Nat × Operand) → (List (Nat × Value) → Prop) → Prop :=
  @Nat.rec (fun _ => List (Nat × Operand) → (List (Nat × Value) → Prop) → Prop) (fun _ _ => False)
    (fun _ ih xs K => (@List.rec (Nat × Operand) (fun _ => Prop) (K []) (fun p xs _ => evK f p.2 fun v => ih xs fun vs => K ((p.1, v) :: vs)) (xs))) n

def partsK (s len : Nat) (n : Nat) : List (Nat × Value) → T Value → (T Value → Prop) → Prop :=
  @Nat.rec (fun _ => List (Nat × Value) → T Value → (T Value → Prop) → Prop) (fun _ _ _ => False)
    (fun _ ih ps t K => (@List.rec (Nat × Value) (fun _ => Prop) (K t) (fun p ps _ => (@Bool.rec (fun _ => Prop) (False) (layK 10000 p.2.cells.toList t (Nat.mul p.1 s) fun t => ih ps t K) (andK (Nat.beq p.2.cells.toList.length s) (andK (Nat.ble (Nat.succ p.1) len) (cellsOk p.2.cells.toList))))) (ps))) n

def litO (P : Program) (t : TypeId) (len : Nat) : Option (Nat × List Value) :=
  match P.underlying t with
  | some (.slice e) => (match P.info? e with
    | some i => (match i.zero with
      | some z => (match andK (Nat.ble 1 len) (andK (Nat.ble (Nat.mul len i.size) 1048576) (andK (Nat.beq z.cells.toList.length i.size) (andK (Nat.ble 1 i.size) (z.cells.toList.all plainCell)))) with
        | true => some (i.size, z.cells.toList)
        | false => none)
      | none => none)
    | none => none)
  | _ => none

def litK (P : Program) (h : Hp) (t : TypeId) (len : Nat) (ps : List (Nat × Value)) (K : Value → Hp → Prop) : Prop :=
  (@Option.rec (Nat × List Value) (fun _ => Prop) (False) (fun q => partsK q.1 len 10000 ps T.emp fun c => newK h ⟨Nat.mul len q.1, q.2, c⟩ fun id h => K (.slice (some ⟨id, 0, none⟩) len q.1) h) (litO P t len))

def makeN (P : Program) (h : Hp) (t : TypeId) (l c : Nat) (K : Value → Hp → Prop) : Prop :=
  match P.underlying t with
  | some (.slice e) => (match P.info? e with
    | some i => (match i.zero with
      | some z => (match andK (Nat.ble l c) (andK (Nat.ble (Nat.mul c i.size) 1073741824) (andK (Nat.ble (Nat.mul i.bytes c) 1073741824) (andK (Nat.ble c 1073741824) (andK (Nat.beq z.cells.toList.length i.size) (andK (Nat.ble 1 i.size) (z.cells.toList.all plainCell)))))) with
        | true => forceK (Nat.mul c i.size) fun s => newK h ⟨s, z.cells.toList, T.emp⟩ fun id h => forceK l fun l => K (.slice (some ⟨id, 0, none⟩) l i.size) h
        | false => False)
      | none => False)
    | none => False)
  | _ => False

def makeK (P : Program) (h : Hp) (t : TypeId) (l c : Value) (K : Value → Hp → Prop) : Prop :=
  (@Value.rec (fun _ => Prop) (fun _ => Prop) (fun _ => Prop) (fun _ => False) (fun _ l => (@Int.rec (fun _ => Prop) (fun l => (@Value.rec (fun _ => Prop) (fun _ => Prop) (fun _ => Prop) (fun _ => False) (fun _ c => (@Int.rec (fun _ => Prop) (fun c => makeN P h t l c K) (fun _ => False) (c))) (fun _ _ => False) (fun _ _ _ => False) (fun _ => False) (fun _ => False) (fun _ _ _ => False) (fun _ => False) (fun _ => False) (fun _ _ _ _ _ => False) (False) (fun _ _ _ => False) (False) (fun _ _ => False) (fun _ _ => False) (fun _ _ => False) False (fun _ _ _ _ => False) (c))) (fun _ => False) (l))) (fun _ _ => False) (fun _ _ _ => False) (fun _ => False) (fun _ => False) (fun _ _ _ => False) (fun _ => False) (fun _ => False) (fun _ _ _ _ _ => False) (False) (fun _ _ _ => False) (False) (fun _ _ => False) (fun _ _ => False) (fun _ _ => False) False (fun _ _ _ _ => False) (l))

def firstK (h : Hp) (s n : Nat) (x : Value) (K : List Value → Prop) : Prop :=
  (@Value.rec (fun _ => Prop) (fun _ => Prop) (fun _ => Prop) (fun _ => False) (fun _ _ => False) (fun _ _ => False) (fun _ _ _ => False) (fun _ => False) (fun _ => False) (fun a len _ => (@Option.rec (Addr) (fun _ => Prop) (False) (fun ad => @Addr.rec (fun _ => Prop) (fun id o sp => (@Option.rec (Nat) (fun _ => Prop) ((@Bool.rec (fun _ => Prop) (False) (blkK h id fun b => takeK b (Nat.mul n s) o K) (Nat.ble n len))) (fun _ => False) (sp))) ad) (a))) (fun _ => False) (fun _ => False) (fun _ _ _ _ _ => False) (False) (fun _ _ _ => False) (False) (fun _ _ => False) (fun _ _ => False) (fun _ _ => False) False (fun _ _ _ _ => False) (x))

/-- a row goes on under a new number -/
def goOnK (h : Hp) (id len s : Nat) (z : List Value) (c : T Value) (K : Value → Hp → Prop) : Prop :=
  (@Hp.rec (fun _ => Prop) (fun hm nx => setK 40 hm id none fun m => forceK len fun len => forceK (Nat.mul len s) fun sz => newK ⟨m, nx⟩ ⟨sz, z, c⟩ fun id h => K (.slice (some ⟨id, 0, none⟩) len s) h) (h))

def appK (h : Hp) (es : Nat) (z : List Value) (sa : Option Addr) (len sc n : Nat) (new : List Value) (K : Value → Hp → Prop) : Prop :=
  (@Bool.rec (fun _ => Prop) (False) ((@Option.rec (Addr) (fun _ => Prop) ((@Bool.rec (fun _ => Prop) (False) (layK 10000 new T.emp 0 fun c => newK h ⟨Nat.mul n es, z, c⟩ fun id h => K (.slice (some ⟨id, 0, none⟩) n es) h) (andK (Nat.beq len 0) (Nat.beq sc 0)))) (fun ad => @Addr.rec (fun _ => Prop) (fun id o sp => (@Option.rec (Nat) (fun _ => Prop) (blkK h id fun b => (@Blk.rec (fun _ => Prop) (fun bs bz bc => (@Bool.rec (fun _ => Prop) (False) ((@Bool.rec (fun _ => Prop) (takeK ⟨bs, bz, bc⟩ (Nat.mul len es) o fun old => layK 10000 (old ++ new) T.emp 0 fun c => goOnK h id (Nat.add len n) es z c K) (layK 10000 new bc (Nat.mul len es) fun c => goOnK h id (Nat.add len n) es bz c K) (Nat.beq o 0))) (andK (Nat.beq sc es) (Nat.ble (Nat.add o (Nat.mul len es)) bs)))) (b))) (fun _ => False) (sp))) ad) (sa))) (Nat.ble (Nat.mul (Nat.add len n) es) 1073741824))

/-- what append asks of its types -/
def appO (P : Program) (st xt : TypeId) : Option (Nat × List Value) :=
  match P.underlying st with
  | some (.slice e) => (match P.underlying xt with
    | some (.slice _) => (match P.info? e with
      | some i => (match i.zero with
        | some z => (match andK (Nat.beq z.cells.toList.length i.size) (andK (Nat.ble 1 i.size) (Nat.ble i.bytes 1000)) with
          | true => some (i.size, z.cells.toList)
          | false => none)
        | none => none)
      | none => none)
    | _ => none)
  | _ => none

def appendK (P : Program) (h : Hp) (st xt : TypeId) (s x : Value) (K : Value → Hp → Prop) : Prop :=
  (@Option.rec (Nat × List Value) (fun _ => Prop) (False) (fun q => (@Value.rec (fun _ => Prop) (fun _ => Prop) (fun _ => Prop) (fun _ => False) (fun _ _ => False) (fun _ _ => False) (fun _ _ _ => False) (fun _ => False) (fun _ => False) (fun sa len sc => (@Value.rec (fun _ => Prop) (fun _ => Prop) (fun _ => Prop) (fun _ => False) (fun _ _ => False) (fun _ _ => False) (fun _ _ _ => False) (fun _ => False) (fun _ => False) (fun xa n xc => (@Bool.rec (fun _ => Prop) (firstK h q.1 n (.slice xa n xc) fun new => appK h q.1 q.2 sa len sc n new K) (K (.slice sa len sc) h) (Nat.beq n 0))) (fun _ => False) (fun _ => False) (fun _ _ _ _ _ => False) (False) (fun _ _ _ => False) (False) (fun _ _ => False) (fun _ _ => False) (fun _ _ => False) False (fun _ _ _ _ => False) (x))) (fun _ => False) (fun _ => False) (fun _ _ _ _ _ => False) (False) (fun _ _ _ => False) (False) (fun _ _ => False) (fun _ _ => False) (fun _ _ => False) False (fun _ _ _ _ => False) (s))) (appO P st xt))

def copyN (h : Hp) (es n : Nat) (a : Option Addr) (s : Value) (K : Value → Hp → Prop) : Prop :=
  (@Bool.rec (fun _ => Prop) ((@Option.rec (Addr) (fun _ => Prop) (False) (fun ad => @Addr.rec (fun _ => Prop) (fun id o sp => (@Option.rec (Nat) (fun _ => Prop) (firstK h es n s fun new => blkK h id fun b => (@Blk.rec (fun _ => Prop) (fun bs bz bc => (@Bool.rec (fun _ => Prop) (False) (layK 10000 new bc o fun c => (@Hp.rec (fun _ => Prop) (fun hm nx => setK 40 hm id (some ⟨bs, bz, c⟩) fun m => K (.int .i64 (.ofNat n)) ⟨m, nx⟩) (h))) (andK (Nat.ble (Nat.add o (Nat.mul n es)) bs) (Nat.ble (Nat.add o (Nat.mul n es)) 1073741824)))) (b))) (fun _ => False) (sp))) ad) (a))) (K (.int .i64 (.ofNat 0)) h) (Nat.beq n 0))

def copyK (P : Program) (h : Hp) (dt : TypeId) (d s : Value) (K : Value → Hp → Prop) : Prop :=
  (@Option.rec (Nat) (fun _ => Prop) (False) (fun es => (@Value.rec (fun _ => Prop) (fun _ => Prop) (fun _ => Prop) (fun _ => False) (fun _ _ => False) (fun _ _ => False) (fun _ _ _ => False) (fun _ => False) (fun _ => False) (fun a dl _ => (@Value.rec (fun _ => Prop) (fun _ => Prop) (fun _ => Prop) (fun _ => False) (fun _ _ => False) (fun _ _ => False) (fun _ _ _ => False) (fun _ => False) (fun _ => False) (fun sa sl sc => forceK (Nat.min sl dl) fun n => copyN h es n a (.slice sa sl sc) K) (fun _ => False) (fun _ => False) (fun _ _ _ _ _ => False) (False) (fun _ _ _ => False) (False) (fun _ _ => False) (fun _ _ => False) (fun _ _ => False) False (fun _ _ _ _ => False) (s))) (fun _ => False) (fun _ => False) (fun _ _ _ _ _ => False) (False) (fun _ _ _ => False) (False) (fun _ _ => False) (fun _ _ => False) (fun _ _ => False) False (fun _ _ _ _ => False) (d))) (elemO P dt))

def allocO (P : Program) (t : TypeId) : Option Value :=
  match P.info? t with
  | some i => (match i.zero with
    | some z => (match z.cells.toList.all plainCell with | true => some z | false => none)
    | none => none)
  | none => none

def bltK (P : Program) (f : Fr) (h : Hp) (b : Builtin) (args : List Operand) (argTypes : List TypeId) (K : Value → Hp → Prop) : Prop :=
  match b, args, argTypes with
  | .append, [s, x], [t, u] => evK f s fun v => evK f x fun y => appendK P h t u v y K
  | .copy, [d, s], [t, _] => evK f d fun v => evK f s fun y => copyK P h t v y K
  | _, _, _ => False

def wantsV (want : Bool) (v : Value) (A N : Prop) : Prop :=
  (@Value.rec (fun _ => Prop) (fun _ => Prop) (fun _ => Prop) (fun b => (@Bool.rec (fun _ => Prop) ((@Bool.rec (fun _ => Prop) (A) (N) (want))) ((@Bool.rec (fun _ => Prop) (N) (A) (want))) (b))) (fun _ _ => False) (fun _ _ => False) (fun _ _ _ => False) (fun _ => False) (fun _ => False) (fun _ _ _ => False) (fun _ => False) (fun _ => False) (fun _ _ _ _ _ => False) (False) (fun _ _ _ => False) (False) (fun _ _ => False) (fun _ _ => N) (fun _ _ => False) False (fun _ _ _ _ => False) (v))

def wantsG (ops : Array Oper) (f : Fr) (q : Nat × Bool) (A N : Prop) : Prop :=
  (@Option.rec (Oper) (fun _ => Prop) (False) (fun oj => (@Option.rec (Nat) (fun _ => Prop) (False) (fun t => getK 40 f t fun v => wantsV q.2 v A N) (oj.dst))) (ops[q.1]?))

def wantsK (ops : Array Oper) (f : Fr) (o : Oper) (A N : Prop) : Prop := (@Option.rec (Nat × Bool) (fun _ => Prop) (A) (fun q => wantsG ops f q A N) (o.guard))

abbrev C := FuncId → List Value → Hp → (Value → Hp → Prop) → Prop
abbrev OpT := Fr → Hp → Oper → (Value → Hp → Prop) → Prop

def oMove (x : Operand) (f : Fr) (h : Hp) (_ : Oper) (K : Value → Hp → Prop) : Prop := evK f x fun v => K v h
def oLoad (P : Program) (t : TypeId) (a : Operand) (f : Fr) (h : Hp) (_ : Oper) (K : Value → Hp → Prop) : Prop := evK f a fun p => loadK P h t p fun v => K v h
def oNil (x : Operand) (f : Fr) (h : Hp) (_ : Oper) (K : Value → Hp → Prop) : Prop := evK f x fun v => nilK v fun v => K v h
def oField (P : Program) (s : TypeId) (x : Operand) (i : Nat) (f : Fr) (h : Hp) (_ : Oper) (K : Value → Hp → Prop) : Prop := evK f x fun v => fieldK P s v i fun v => K v h
def oIndex (P : Program) (t : TypeId) (x i : Operand) (f : Fr) (h : Hp) (_ : Oper) (K : Value → Hp → Prop) : Prop := evK f x fun v => evK f i fun j => indexK P t v j fun v => K v h
def oBin (P : Program) (op : BinOp) (_ : TypeId) (x y : Operand) (_ : TypeId) (f : Fr) (h : Hp) (o : Oper) (K : Value → Hp → Prop) : Prop := binK P f o op x y fun v => K v h
def oPick (c a b : Operand) (f : Fr) (h : Hp) (_ : Oper) (K : Value → Hp → Prop) : Prop := evK f c fun v => pickK v (evK f a fun v => K v h) (evK f b fun v => K v h)
def oAlloc (P : Program) (t : TypeId) (_ : Fr) (h : Hp) (_ : Oper) (K : Value → Hp → Prop) : Prop := (@Option.rec (Value) (fun _ => Prop) (False) (fun z => boxK h z K) (allocO P t))
def oBox (_ : TypeId) (x : Operand) (f : Fr) (h : Hp) (_ : Oper) (K : Value → Hp → Prop) : Prop := evK f x fun v => boxK h v K
def oLit (P : Program) (t : TypeId) (n : Nat) (ps : Array (Nat × Operand)) (f : Fr) (h : Hp) (_ : Oper) (K : Value → Hp → Prop) : Prop := evpK f 1000 ps.toList fun vs => litK P h t n vs K
def oStore (P : Program) (t : TypeId) (a x : Operand) (f : Fr) (h : Hp) (_ : Oper) (K : Value → Hp → Prop) : Prop := evK f a fun p => evK f x fun v => storeK P h t p v fun h => K undef h
def oMake (P : Program) (t : TypeId) (l c : Operand) (f : Fr) (h : Hp) (_ : Oper) (K : Value → Hp → Prop) : Prop := evK f l fun l => evK f c fun c => makeK P h t l c K
def oRest (P : Program) (f : Fr) (h : Hp) (o : Oper) (K : Value → Hp → Prop) : Prop := optK (rop P (T.get dep f) h o) fun v => K v h
def oFun (call : C) (args : Array Operand) (k : FuncId) (f : Fr) (h : Hp) (_ : Oper) (K : Value → Hp → Prop) : Prop := evsK f 1000 args.toList fun vs => call k vs h K
def oNo (_ : Fr) (_ : Hp) (_ : Oper) (_ : Value → Hp → Prop) : Prop := False
def oBlt (P : Program) (b : Builtin) (args : Array Operand) (argTypes : Array TypeId) (f : Fr) (h : Hp) (o : Oper) (K : Value → Hp → Prop) : Prop :=
  (@Builtin.rec (fun _ => Prop) (bltK P f h b args.toList argTypes.toList K) (bltK P f h b args.toList argTypes.toList K) (bltK P f h b args.toList argTypes.toList K) (bltK P f h b args.toList argTypes.toList K) (bltK P f h b args.toList argTypes.toList K) (bltK P f h b args.toList argTypes.toList K) (bltK P f h b args.toList argTypes.toList K) (bltK P f h b args.toList argTypes.toList K) (lensK P f o args.toList argTypes.toList fun v => K v h) (bltK P f h b args.toList argTypes.toList K) (bltK P f h b args.toList argTypes.toList K) (bltK P f h b args.toList argTypes.toList K) (bltK P f h b args.toList argTypes.toList K) (bltK P f h b args.toList argTypes.toList K) (bltK P f h b args.toList argTypes.toList K) (bltK P f h b args.toList argTypes.toList K) (bltK P f h b args.toList argTypes.toList K) (bltK P f h b args.toList argTypes.toList K) (bltK P f h b args.toList argTypes.toList K) (bltK P f h b args.toList argTypes.toList K) (bltK P f h b args.toList argTypes.toList K) (bltK P f h b args.toList argTypes.toList K) (bltK P f h b args.toList argTypes.toList K) (bltK P f h b args.toList argTypes.toList K) (bltK P f h b args.toList argTypes.toList K) (bltK P f h b args.toList argTypes.toList K) (b))
def oCall (P : Program) (call : C) (c : Call) : OpT :=
  @Call.rec (fun _ => OpT) (fun callee args argTypes => @Callee.rec (fun _ => OpT) (fun g => @Operand.rec (fun _ => OpT) (fun _ => oNo) (fun _ => oNo) (fun _ => oNo) (fun k => oFun call args k) g) (fun _ _ => oNo) (fun b => oBlt P b args argTypes) callee) c

/-- one operation, all kinds -/
def opK (P : Program) (call : C) (op : Op) : OpT :=
  (@Op.rec (fun _ => OpT) (oMove) (oMove) (oPick) (oAlloc P) (oBox) (fun _ _ => oRest P) (oLit P) (fun _ _ _ _ => oRest P) (oLoad P) (oStore P) (fun _ => oRest P) (fun _ => oRest P) (oNil) (oBin P) (fun _ _ _ => oRest P) (fun _ _ _ => oRest P) (fun _ _ => oRest P) (fun _ _ => oRest P) (fun _ _ _ => oRest P) (fun _ _ => oRest P) (fun _ _ => oRest P) (oMake P) (fun _ _ _ _ _ => oRest P) (oField P) (fun _ _ _ => oRest P) (oIndex P) (fun _ _ _ => oRest P) (fun _ _ _ _ => oRest P) (fun _ _ _ _ => oRest P) (fun _ _ _ => oRest P) (fun _ _ _ _ => oRest P) (fun _ _ => oRest P) (fun _ _ => oRest P) (fun _ => oRest P) (fun _ _ _ _ => oRest P) (fun _ _ => oRest P) (oCall P call) (fun _ => oRest P) (fun _ => oRest P) (fun _ => oRest P) (fun _ _ => oRest P) (fun _ _ _ => oRest P) (fun _ _ => oRest P) (op))

def stepK (P : Program) (call : FuncId → List Value → Hp → (Value → Hp → Prop) → Prop) (all : Array Oper) (f : Fr) (h : Hp) (o : Oper) (K : Value → Hp → Prop) : Prop :=
  wantsK all f o (opK P call o.op f h o K) (K undef h)

def seqK (P : Program) (call : FuncId → List Value → Hp → (Value → Hp → Prop) → Prop) (all : Array Oper) (n : Nat) : List Oper → Fr → Hp → (Fr → Hp → Prop) → Prop :=
  @Nat.rec (fun _ => List Oper → Fr → Hp → (Fr → Hp → Prop) → Prop) (fun _ _ _ _ => False)
    (fun _ ih ops f h K => (@List.rec (Oper) (fun _ => Prop) (K f h) (fun o ops _ => stepK P call all f h o fun v h => putK f o.dst v fun f => ih ops f h K) (ops))) n

def traceK (P : Program) (call : FuncId → List Value → Hp → (Value → Hp → Prop) → Prop) (all : Array Oper) (n : Nat) : List Oper → Fr → Hp → (List (Fr × Hp × Value) → Fr → Hp → Prop) → Prop :=
  @Nat.rec (fun _ => List Oper → Fr → Hp → (List (Fr × Hp × Value) → Fr → Hp → Prop) → Prop) (fun _ _ _ _ => False)
    (fun _ ih ops f h K => (@List.rec (Oper) (fun _ => Prop) (K [(f, h, undef)] f h) (fun o ops _ => stepK P call all f h o fun v h2 => putK f o.dst v fun f2 => ih ops f2 h2 fun l => K ((f, h, v) :: l)) (ops))) n

def cellB (x y : Value) : Bool :=
  match x, y with
  | .pointer (some ⟨i, o, none⟩), .pointer (some ⟨i', o', none⟩) => andK (Nat.beq i i') (Nat.beq o o')
  | .slice (some ⟨i, o, none⟩) l c, .slice (some ⟨i', o', none⟩) l' c' => andK (Nat.beq i i') (andK (Nat.beq o o') (andK (Nat.beq l l') (Nat.beq c c')))
  | x, y => veq x y

/-- the load once more, at another memory -/
def againK (P : Program) (ops : Array Oper) (tr : List (Fr × Hp × Value)) (p : Nat × Nat) (A : Prop) : Prop :=
  match ops[p.1]?, tr[p.1]?, tr[p.2]?, tr[p.2 + 1]? with
  | some oi, some (f, _, v), some (_, h1, _), some (_, h2, _) =>
    (match oi.op with
     | .load t a => wantsK ops f oi (evK f a fun p => loadK P h1 t p fun u => (@Bool.rec (fun _ => Prop) (False) (loadK P h2 t p fun u => (@Bool.rec (fun _ => Prop) (False) (A) (cellB u v))) (cellB u v))) A
     | _ => False)
  | _, _, _, _ => False

def againsK (P : Program) (ops : Array Oper) (tr : List (Fr × Hp × Value)) (A : Prop) (n : Nat) : List (Nat × Nat) → Prop :=
  @Nat.rec (fun _ => List (Nat × Nat) → Prop) (fun _ => False)
    (fun _ ih ps => (@List.rec (Nat × Nat) (fun _ => Prop) (A) (fun p ps _ => againK P ops tr p (ih ps)) (ps))) n

/-- what is known of a region ahead of its run: may it be run, and the pairs -/
def plan (ops : Array Oper) : Option (List (Nat × Nat)) := if drawOk ops (befores ops.toList []) then some (pairs ops (befores ops.toList [])) else none

def drawK (P : Program) (call : FuncId → List Value → Hp → (Value → Hp → Prop) → Prop) (ops : Array Oper) (f : Fr) (h : Hp) (K : Fr → Hp → Prop) : Prop :=
  (@Option.rec (List (Nat × Nat)) (fun _ => Prop) (False) (fun ps => (@List.rec (Nat × Nat) (fun _ => Prop) (seqK P call ops 1000 ops.toList f h K) (fun p ps _ => traceK P call ops 1000 ops.toList f h fun tr f h => againsK P ops tr (K f h) 1000 (p :: ps)) (ps))) (plan ops))

def resultsK (P : Program) (f : Fr) (h : Hp) (n : Nat) : List ResultVar → (List Value → Prop) → Prop :=
  @Nat.rec (fun _ => List ResultVar → (List Value → Prop) → Prop) (fun _ _ => False)
    (fun _ ih rs K => (@List.rec (ResultVar) (fun _ => Prop) (K []) (fun r rs _ => @ResultVar.rec (fun _ => Prop) (fun t => getK 40 f t fun v => ih rs fun vs => K (v :: vs)) (fun a t => getK 40 f a fun p => loadK P h t p fun v => ih rs fun vs => K (v :: vs)) r) (rs))) n

def fnOk (fn : Func) (c : Code) : Bool := !(fn.name == "runtime.NumGoroutine") && dsts fn.ntmps c

def ansK (vs : List Value) (K : Value → Prop) : Prop := match answer vs with | some v => K v | none => False

def backK (P : Program) (fn : Func) (K : Value → Hp → Prop) (e : Exit) (f : Fr) (h : Hp) : Prop :=
  (@Exit.rec (fun _ => Prop) (resultsK P f h 100 fn.results.toList fun vs => ansK vs fun v => K v h) (fun _ => False) (fun _ => False) (resultsK P f h 100 fn.results.toList fun vs => ansK vs fun v => K v h) (fun _ => False) (False) (e))

/-- a function that may be run, its code -/
def fnO (P : Program) (k : FuncId) : Option (Func × Code) :=
  match P.funcs[k]? with
  | some fn => (match fn.body with
    | some c => (match fnOk fn c with | true => some (fn, c) | false => none)
    | none => none)
  | none => none

def callK (P : Program) (ov : FuncId → List Value → Option Value) (ih : Code → Fr → Hp → (Exit → Fr → Hp → Prop) → Prop) (k : FuncId) (args : List Value) (h : Hp) (K : Value → Hp → Prop) : Prop :=
  (@Option.rec (Value) (fun _ => Prop) ((@Option.rec (Func × Code) (fun _ => Prop) (False) (fun q => (@Bool.rec (fun _ => Prop) (False) (layK 10000 args T.emp 0 fun f => ih q.2 f h (backK P q.1 K)) (Nat.ble args.length 1000))) (fnO P k))) (fun v => K v h) (ov k args))

def thenK (A : Fr → Hp → Prop) (K : Exit → Fr → Hp → Prop) (e : Exit) (f : Fr) (h : Hp) : Prop :=
  (@Exit.rec (fun _ => Prop) (A f h) (fun _ => K e f h) (fun _ => K e f h) (K e f h) (fun _ => K e f h) (K e f h) (e))

def blockK (id : Nat) (K : Exit → Fr → Hp → Prop) (e : Exit) (f : Fr) (h : Hp) : Prop :=
  (@Exit.rec (fun _ => Prop) (K e f h) (fun j => (@Bool.rec (fun _ => Prop) (K e f h) (K .normal f h) (Nat.beq j id))) (fun _ => K e f h) (K e f h) (fun _ => K e f h) (K e f h) (e))

abbrev Kt := Exit → Fr → Hp → Prop
abbrev Ct := Fr → Hp → Kt → Prop

def cSkip (f : Fr) (h : Hp) (K : Kt) : Prop := K .normal f h
def cNo (_ : Fr) (_ : Hp) (_ : Kt) : Prop := False
def cReg (P : Program) (call : C) (ops : Array Oper) (d : Bool) (f : Fr) (h : Hp) (K : Kt) : Prop :=
  (@Bool.rec (fun _ => Prop) (seqK P call ops 1000 ops.toList f h (K .normal)) (drawK P call ops f h (K .normal)) (d))
def cSeq (ih : Code → Ct) (a b : Code) (f : Fr) (h : Hp) (K : Kt) : Prop := ih a f h (thenK (fun f h => ih b f h K) K)
def cCond (ih : Code → Ct) (x : Operand) (a b : Code) (f : Fr) (h : Hp) (K : Kt) : Prop := evK f x fun v => pickK v (ih a f h K) (ih b f h K)
def cBlock (ih : Code → Ct) (id : Nat) (b : Code) (f : Fr) (h : Hp) (K : Kt) : Prop := ih b f h (blockK id K)
def cExit (id : Nat) (f : Fr) (h : Hp) (K : Kt) : Prop := K (.exit id) f h
def cRet (f : Fr) (h : Hp) (K : Kt) : Prop := K .ret f h

def execK (P : Program) (ov : FuncId → List Value → Option Value) (n : Nat) : Code → Ct :=
  @Nat.rec (fun _ => Code → Ct) (fun _ => cNo)
    (fun _ ih c => @Code.rec (fun _ => Ct) cSkip (fun _ ops d => cReg P (callK P ov ih) ops d) (fun a b _ _ => cSeq ih a b) (fun x a b _ _ => cCond ih x a b) (fun id b _ => cBlock ih id b) (fun b _ => cSeq ih b (.loop b))
      (fun _ _ _ _ _ _ => cNo) cExit (fun _ _ => cNo) (fun _ => cNo) (fun _ => cNo) cRet (fun _ => cNo) c) n

end Go.Ai
