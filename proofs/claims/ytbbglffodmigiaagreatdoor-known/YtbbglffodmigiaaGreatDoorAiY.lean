/-
  Known: what is left to the kernel.
-/
import Derived.Test.YtbbglffodmigiaaGreatDoorAiR
import Derived.Test.YtbbglffodmigiaaGreatDoorProg
namespace Go.Proofs.YtbbglffodmigiaaGreatDoor
open Go.Ai

def no : FuncId → List Value → Option Value := fun _ _ => none
/-- what golds lays -/
def goldsRun (P : Program) : Option (Value × Hp) := callG P no (exec P no 1000) 4 [] ⟨T.emp, 1⟩
def gh (P : Program) : Hp := match goldsRun P with | some (_, h) => h | none => ⟨T.emp, 1⟩
def gv : Value := .slice (some ⟨1, 0, none⟩) 10 2
/-- the i-th text -/
def txt (P : Program) (i : Nat) : Value := match blk (gh P) 1 with | some b => (b.at (2 * i)).getD undef | none => undef

def tr (b : Bool) : Prop := @Bool.rec (fun _ => Prop) False True b
def strK (v : Value) (K : Value → Prop) : Prop := match v with | .string s => K (.string s) | _ => False

def like (x y : Value) : Bool :=
  match x, y with
  | .int .i64 a, .int .i64 b => decide (a = b)
  | .slice none 0 0, .slice none 0 0 => true
  | .slice (some ⟨0, 0, none⟩) n 1, .slice (some ⟨_, _, none⟩) m _ => Nat.beq n m
  | _, _ => false

def likes : List Value → List Value → Bool
  | [], [] => true
  | x :: xs, y :: ys => like x y && likes xs ys
  | _, _ => false

def resB (R r : Value) : Bool :=
  match R, r with
  | .tuple vs, .tuple us => likes vs.toList us.toList
  | _, _ => false

/-- Decide at a text and a view: what the kernel runs -/
def Run (N : Nat) (t : Value) (v : Nat) (R : Value) : Prop :=
  strK t fun s => callK Tryz.prog no (execK Tryz.prog no N) 6 [s, .int .i64 (.ofNat v)] ⟨T.emp, 1⟩ fun r _ => tr (resB R r)

def dead (n : Nat) : Value := .slice (some ⟨0, 0, none⟩) n 1
def res (d : Nat) (x y : Value) (e : Nat) : Value := .tuple #[.int .i64 (.ofNat d), x, y, .int .i64 (.ofNat e)]


end Go.Proofs.YtbbglffodmigiaaGreatDoor
