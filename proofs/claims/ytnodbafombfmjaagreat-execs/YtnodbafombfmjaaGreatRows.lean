/-
  No cell of these rows narrows 'for every input' (looked for: loops, veiled, ifaces, maps, wideKeys, modest, calm, conditions, laid).
  DERIVED. THE GIVEN ROWS OF THIS SEAT. 7 by the template 'for every input the law returns true; each argument reads behind the call as it read before'; 0 by the template 'total and deterministic' (their statements: YtnodbafombfmjaaGreatTotals.lean).
  GIVEN WITH THE SEED: the statements are not yours to turn. If you find one false, say at which input.
  Laid BY PROGRAM, IN A SANDBOX (cutbox-rows.mjs): the forced cells as the released guide's own fill.sh prints them over the translation 30f1fb16eff58412… (all of the seat's roots in one cut). By AI agents, Wed Nov 11 2026. No macro, syntax, notation, axiom, sorry.
-/
import Derived.Test.YtnodbafombfmjaaGreatChecked
import GoSem.Claim
import GoSem.ClaimJoined
import GoSem.ClaimMapViews
import Derived.JoinedTies
import Derived.KernelRfl
namespace Go.Proofs.YtnodbafombfmjaaGreat
/- THE CELL 'sum', in the pinned program and in every row, IS THE sha256 OF THE DUMP (.gsa) THAT YtnodbafombfmjaaGreatProg.lean LOADS. Nothing in Lean hashes anything: it is a label: what it is worth is what the hold of that sum in a sandbox is worth. -/
noncomputable def Tryz.pinned : Pinned := { name := "ytnodbafombfmjaagreat", sum := "30f1fb16eff58412273d8f15b5ee2293a6895ab1975f940b2b11caa6a6ff2fd6", checked := Tryz.checked }
namespace Rows
def none {H : Type} : Left H := { results := [], args := [] }

/-- 'leaklaw.Checks': WHATEVER THE INPUT: true; the input reads as it did. -/
def checksSpec : ChangeSpec := { name := "checks", fn := fun _ => fun
  | [d] => { results := [.lit (.bool true)], args := [d] }
  | _ => none }
def checksRow : OpenClaim := { program := "ytnodbafombfmjaagreat", sum := "30f1fb16eff58412273d8f15b5ee2293a6895ab1975f940b2b11caa6a6ff2fd6", func := "leak/leaklaw.Checks", spec := "checks", recurses := true, apart := false }
def ChecksSaid : Prop := checksRow.holds Tryz.pinned (OpenSpec.ofChange checksSpec)

/-- ITS FALSE NEIGHBOUR: 'it returns false'. Refute it at one input. -/
def checksWrong : ChangeSpec := { name := "checks", fn := fun _ => fun
  | [d] => { results := [.lit (.bool false)], args := [d] }
  | _ => none }
def ChecksWrongFalsely : Prop := checksRow.holds Tryz.pinned (OpenSpec.ofChange checksWrong)

/-- 'leaklaw.Runs': WHATEVER THE INPUT: true; the input reads as it did. -/
def runsSpec : ChangeSpec := { name := "runs", fn := fun _ => fun
  | [d] => { results := [.lit (.bool true)], args := [d] }
  | _ => none }
def runsRow : OpenClaim := { program := "ytnodbafombfmjaagreat", sum := "30f1fb16eff58412273d8f15b5ee2293a6895ab1975f940b2b11caa6a6ff2fd6", func := "leak/leaklaw.Runs", spec := "runs", recurses := true, apart := false }
def RunsSaid : Prop := runsRow.holds Tryz.pinned (OpenSpec.ofChange runsSpec)

/-- ITS FALSE NEIGHBOUR: 'it returns false'. Refute it at one input. -/
def runsWrong : ChangeSpec := { name := "runs", fn := fun _ => fun
  | [d] => { results := [.lit (.bool false)], args := [d] }
  | _ => none }
def RunsWrongFalsely : Prop := runsRow.holds Tryz.pinned (OpenSpec.ofChange runsWrong)

/-- 'leaklaw.Codes': WHATEVER THE INPUT: true; the input reads as it did. -/
def codesSpec : ChangeSpec := { name := "codes", fn := fun _ => fun
  | [d] => { results := [.lit (.bool true)], args := [d] }
  | _ => none }
def codesRow : OpenClaim := { program := "ytnodbafombfmjaagreat", sum := "30f1fb16eff58412273d8f15b5ee2293a6895ab1975f940b2b11caa6a6ff2fd6", func := "leak/leaklaw.Codes", spec := "codes", recurses := true, apart := false }
def CodesSaid : Prop := codesRow.holds Tryz.pinned (OpenSpec.ofChange codesSpec)

/-- ITS FALSE NEIGHBOUR: 'it returns false'. Refute it at one input. -/
def codesWrong : ChangeSpec := { name := "codes", fn := fun _ => fun
  | [d] => { results := [.lit (.bool false)], args := [d] }
  | _ => none }
def CodesWrongFalsely : Prop := codesRow.holds Tryz.pinned (OpenSpec.ofChange codesWrong)

/-- 'leaklaw.Execs': WHATEVER THE INPUT: true; the input reads as it did. -/
def execsSpec : ChangeSpec := { name := "execs", fn := fun _ => fun
  | [d] => { results := [.lit (.bool true)], args := [d] }
  | _ => none }
def execsRow : OpenClaim := { program := "ytnodbafombfmjaagreat", sum := "30f1fb16eff58412273d8f15b5ee2293a6895ab1975f940b2b11caa6a6ff2fd6", func := "leak/leaklaw.Execs", spec := "execs", recurses := true, apart := false }
def ExecsSaid : Prop := execsRow.holds Tryz.pinned (OpenSpec.ofChange execsSpec)

/-- ITS FALSE NEIGHBOUR: 'it returns false'. Refute it at one input. -/
def execsWrong : ChangeSpec := { name := "execs", fn := fun _ => fun
  | [d] => { results := [.lit (.bool false)], args := [d] }
  | _ => none }
def ExecsWrongFalsely : Prop := execsRow.holds Tryz.pinned (OpenSpec.ofChange execsWrong)

/-- 'leaklaw.Paths': WHATEVER THE INPUT: true; the input reads as it did. -/
def pathsSpec : ChangeSpec := { name := "paths", fn := fun _ => fun
  | [d] => { results := [.lit (.bool true)], args := [d] }
  | _ => none }
def pathsRow : OpenClaim := { program := "ytnodbafombfmjaagreat", sum := "30f1fb16eff58412273d8f15b5ee2293a6895ab1975f940b2b11caa6a6ff2fd6", func := "leak/leaklaw.Paths", spec := "paths", recurses := true, apart := false }
def PathsSaid : Prop := pathsRow.holds Tryz.pinned (OpenSpec.ofChange pathsSpec)

/-- ITS FALSE NEIGHBOUR: 'it returns false'. Refute it at one input. -/
def pathsWrong : ChangeSpec := { name := "paths", fn := fun _ => fun
  | [d] => { results := [.lit (.bool false)], args := [d] }
  | _ => none }
def PathsWrongFalsely : Prop := pathsRow.holds Tryz.pinned (OpenSpec.ofChange pathsWrong)

/-- 'leaklaw.Lowers': WHATEVER THE INPUT: true; the input reads as it did. -/
def lowersSpec : ChangeSpec := { name := "lowers", fn := fun _ => fun
  | [d] => { results := [.lit (.bool true)], args := [d] }
  | _ => none }
def lowersRow : OpenClaim := { program := "ytnodbafombfmjaagreat", sum := "30f1fb16eff58412273d8f15b5ee2293a6895ab1975f940b2b11caa6a6ff2fd6", func := "leak/leaklaw.Lowers", spec := "lowers", recurses := true, apart := false }
def LowersSaid : Prop := lowersRow.holds Tryz.pinned (OpenSpec.ofChange lowersSpec)

/-- ITS FALSE NEIGHBOUR: 'it returns false'. Refute it at one input. -/
def lowersWrong : ChangeSpec := { name := "lowers", fn := fun _ => fun
  | [d] => { results := [.lit (.bool false)], args := [d] }
  | _ => none }
def LowersWrongFalsely : Prop := lowersRow.holds Tryz.pinned (OpenSpec.ofChange lowersWrong)

/-- 'leaklaw.Solves': WHATEVER THE INPUT: true; the input reads as it did. -/
def solvesSpec : ChangeSpec := { name := "solves", fn := fun _ => fun
  | [d] => { results := [.lit (.bool true)], args := [d] }
  | _ => none }
def solvesRow : OpenClaim := { program := "ytnodbafombfmjaagreat", sum := "30f1fb16eff58412273d8f15b5ee2293a6895ab1975f940b2b11caa6a6ff2fd6", func := "leak/leaklaw.Solves", spec := "solves", recurses := true, apart := false }
def SolvesSaid : Prop := solvesRow.holds Tryz.pinned (OpenSpec.ofChange solvesSpec)

/-- ITS FALSE NEIGHBOUR: 'it returns false'. Refute it at one input. -/
def solvesWrong : ChangeSpec := { name := "solves", fn := fun _ => fun
  | [d] => { results := [.lit (.bool false)], args := [d] }
  | _ => none }
def SolvesWrongFalsely : Prop := solvesRow.holds Tryz.pinned (OpenSpec.ofChange solvesWrong)

/- THE SECOND FORM. 'bulk': how many values and letters a reading holds, each counted each time it is reached (what is shared counts as often as it is met; a slice's spare places count too). A statement '..UptoSaid' is the law's where the arguments, and the package variables that the reading takes, are together of bulk at most 1048576: NARROWER than '..Said'. Prove '..Said' where nothing that the law and all that it calls make is longer than what came in: it says more and counts as full. Else prove '..UptoSaid'. A law counts once. -/
mutual
def uptoBulk {H : Type} : DataW H → Nat
  | .lit (.string bytes) => bytes.length + 1
  | .lit _ => 1
  | .nil => 1
  | .ptr d => uptoBulk d + 1
  | .slice elems spare => uptoBulkAll elems + uptoBulkAll spare + 1
  | .agg parts => uptoBulkAll parts + 1
  | .iface _ d => uptoBulk d + 1
  | .map entries => uptoBulkEntries entries + 1
  | .held _ => 1
def uptoBulkAll {H : Type} : List (DataW H) → Nat
  | [] => 0
  | d :: r => uptoBulk d + uptoBulkAll r
def uptoBulkEntries {H : Type} : List (Lit × DataW H) → Nat
  | [] => 0
  | x :: r => uptoBulkEntry x + uptoBulkEntries r
def uptoBulkEntry {H : Type} : Lit × DataW H → Nat
  | (.string bytes, d) => bytes.length + uptoBulk d + 1
  | (_, d) => uptoBulk d + 1
 end
def uptoSmall : (H : Type) → List (DataW H) → Bool := fun _ ds => decide (uptoBulkAll ds ≤ 1048576)
def OpenSpec.upto (s : _root_.Go.ChangeSpec) : _root_.Go.OpenSpec := { _root_.Go.OpenSpec.ofChange s with cond := some uptoSmall }

/-- 'leaklaw.Checks', WHERE WHAT IT READS IS OF BULK AT MOST 1048576: true; the input reads as it did. -/
def checksUptoRow : OpenClaim := { program := "ytnodbafombfmjaagreat", sum := "30f1fb16eff58412273d8f15b5ee2293a6895ab1975f940b2b11caa6a6ff2fd6", func := "leak/leaklaw.Checks", spec := "checks", recurses := true, apart := false, narrowed := true }
def ChecksUptoSaid : Prop := checksUptoRow.holds Tryz.pinned (OpenSpec.upto checksSpec)

/-- 'leaklaw.Runs', WHERE WHAT IT READS IS OF BULK AT MOST 1048576: true; the input reads as it did. -/
def runsUptoRow : OpenClaim := { program := "ytnodbafombfmjaagreat", sum := "30f1fb16eff58412273d8f15b5ee2293a6895ab1975f940b2b11caa6a6ff2fd6", func := "leak/leaklaw.Runs", spec := "runs", recurses := true, apart := false, narrowed := true }
def RunsUptoSaid : Prop := runsUptoRow.holds Tryz.pinned (OpenSpec.upto runsSpec)

/-- 'leaklaw.Codes', WHERE WHAT IT READS IS OF BULK AT MOST 1048576: true; the input reads as it did. -/
def codesUptoRow : OpenClaim := { program := "ytnodbafombfmjaagreat", sum := "30f1fb16eff58412273d8f15b5ee2293a6895ab1975f940b2b11caa6a6ff2fd6", func := "leak/leaklaw.Codes", spec := "codes", recurses := true, apart := false, narrowed := true }
def CodesUptoSaid : Prop := codesUptoRow.holds Tryz.pinned (OpenSpec.upto codesSpec)

/-- 'leaklaw.Execs', WHERE WHAT IT READS IS OF BULK AT MOST 1048576: true; the input reads as it did. -/
def execsUptoRow : OpenClaim := { program := "ytnodbafombfmjaagreat", sum := "30f1fb16eff58412273d8f15b5ee2293a6895ab1975f940b2b11caa6a6ff2fd6", func := "leak/leaklaw.Execs", spec := "execs", recurses := true, apart := false, narrowed := true }
def ExecsUptoSaid : Prop := execsUptoRow.holds Tryz.pinned (OpenSpec.upto execsSpec)

/-- 'leaklaw.Paths', WHERE WHAT IT READS IS OF BULK AT MOST 1048576: true; the input reads as it did. -/
def pathsUptoRow : OpenClaim := { program := "ytnodbafombfmjaagreat", sum := "30f1fb16eff58412273d8f15b5ee2293a6895ab1975f940b2b11caa6a6ff2fd6", func := "leak/leaklaw.Paths", spec := "paths", recurses := true, apart := false, narrowed := true }
def PathsUptoSaid : Prop := pathsUptoRow.holds Tryz.pinned (OpenSpec.upto pathsSpec)

/-- 'leaklaw.Lowers', WHERE WHAT IT READS IS OF BULK AT MOST 1048576: true; the input reads as it did. -/
def lowersUptoRow : OpenClaim := { program := "ytnodbafombfmjaagreat", sum := "30f1fb16eff58412273d8f15b5ee2293a6895ab1975f940b2b11caa6a6ff2fd6", func := "leak/leaklaw.Lowers", spec := "lowers", recurses := true, apart := false, narrowed := true }
def LowersUptoSaid : Prop := lowersUptoRow.holds Tryz.pinned (OpenSpec.upto lowersSpec)

/-- 'leaklaw.Solves', WHERE WHAT IT READS IS OF BULK AT MOST 1048576: true; the input reads as it did. -/
def solvesUptoRow : OpenClaim := { program := "ytnodbafombfmjaagreat", sum := "30f1fb16eff58412273d8f15b5ee2293a6895ab1975f940b2b11caa6a6ff2fd6", func := "leak/leaklaw.Solves", spec := "solves", recurses := true, apart := false, narrowed := true }
def SolvesUptoSaid : Prop := solvesUptoRow.holds Tryz.pinned (OpenSpec.upto solvesSpec)

end Rows
end Go.Proofs.YtnodbafombfmjaaGreat
