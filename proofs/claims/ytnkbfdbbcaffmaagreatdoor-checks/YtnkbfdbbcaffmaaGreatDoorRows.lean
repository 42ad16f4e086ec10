/-
  NARROWER THAN 'FOR EVERY INPUT', by the rows' own cells (each row's printed sentence says how): Checks: laid · Runs: laid · Codes: laid · Execs: laid · Paths: laid · Lowers: laid · Solves: laid · Decides: laid · All: laid.
  DERIVED. THE GIVEN ROWS OF THIS SEAT. 9 by the template 'for every input the law returns true; each argument reads behind the call as it read before'; 0 by the template 'total and deterministic' (their statements: YtnkbfdbbcaffmaaGreatDoorTotals.lean).
  GIVEN WITH THE SEED: the statements are not yours to turn. If you find one false, say at which input.
  Laid BY PROGRAM, IN A SANDBOX (cutbox-rows.mjs): the forced cells as the released guide's own fill.sh prints them over the translation 4ac6edea6a827026… (all of the seat's roots in one cut). By AI agents, Wed Nov 11 2026. No macro, syntax, notation, axiom, sorry.
-/
import Derived.Test.YtnkbfdbbcaffmaaGreatDoorChecked
import GoSem.Claim
import GoSem.ClaimJoined
import GoSem.ClaimMapViews
import Derived.JoinedTies
import Derived.KernelRfl
namespace Go.Proofs.YtnkbfdbbcaffmaaGreatDoor
/- THE CELL 'sum', in the pinned program and in every row, IS THE sha256 OF THE DUMP (.gsa) THAT YtnkbfdbbcaffmaaGreatDoorProg.lean LOADS. Nothing in Lean hashes anything: it is a label: what it is worth is what the hold of that sum in a sandbox is worth. -/
noncomputable def Tryz.pinned : Pinned := { name := "ytnkbfdbbcaffmaagreatdoor", sum := "4ac6edea6a8270267b6f2cf000a161087b17eba6d9f28e6154bb4aa156d42fc6", checked := Tryz.checked }
namespace Rows
def none {H : Type} : Left H := { results := [], args := [] }

/- WHAT THE LISTED PACKAGE-LEVEL VARIABLES READ AS WHEN THE CALL BEGINS. Each datum BY PROGRAM (the guide's laid-datum.mjs) off the statement by which the dump's own 'gosem.cut.vars' lays the variable. In a bare row this is a premise. The card (YtnkbfdbbcaffmaaGreatDoorCards.lean) ties it to the program's text. -/
def laid_leak_circuit_lane {H : Type} : DataW H := .agg [.lit (.int .u64 12297829382473034410), .lit (.int .u64 14757395258967641292), .lit (.int .u64 17361641481138401520), .lit (.int .u64 18374966859414961920), .lit (.int .u64 18446462603027742720), .lit (.int .u64 18446744069414584320)]

/-- 'leaklaw.Checks': WHATEVER THE INPUT: true; the input reads as it did. -/
def checksSpec : ChangeSpec := { name := "checks", fn := fun _ => fun
  | [d] => { results := [.lit (.bool true)], args := [d] }
  | _ => none }
def checksRow : OpenClaim := { program := "ytnkbfdbbcaffmaagreatdoor", sum := "4ac6edea6a8270267b6f2cf000a161087b17eba6d9f28e6154bb4aa156d42fc6", func := "leak/leaklaw.Checks", spec := "checks", recurses := true, named := ["leak/circuit.lane"], apart := false, laid := [("leak/circuit.lane", laid_leak_circuit_lane)] }
def ChecksSaid : Prop := checksRow.holds Tryz.pinned (OpenSpec.ofChange checksSpec)

/-- ITS FALSE NEIGHBOUR: 'it returns false'. Refute it at one input. -/
def checksWrong : ChangeSpec := { name := "checks", fn := fun _ => fun
  | [d] => { results := [.lit (.bool false)], args := [d] }
  | _ => none }
def ChecksWrongFalsely : Prop := checksRow.holds Tryz.pinned (OpenSpec.ofChange checksWrong)

/-- 'leaklaw.Runs': WHATEVER THE INPUT: true; the input reads as it did. -/
def runsSpec : ChangeSpec := { name := "runs", fn := fun _ => fun
  | [d] => { results := [.lit (.bool true)], args := [d] }
  | _ => none }
def runsRow : OpenClaim := { program := "ytnkbfdbbcaffmaagreatdoor", sum := "4ac6edea6a8270267b6f2cf000a161087b17eba6d9f28e6154bb4aa156d42fc6", func := "leak/leaklaw.Runs", spec := "runs", recurses := true, named := ["leak/circuit.lane"], apart := false, laid := [("leak/circuit.lane", laid_leak_circuit_lane)] }
def RunsSaid : Prop := runsRow.holds Tryz.pinned (OpenSpec.ofChange runsSpec)

/-- ITS FALSE NEIGHBOUR: 'it returns false'. Refute it at one input. -/
def runsWrong : ChangeSpec := { name := "runs", fn := fun _ => fun
  | [d] => { results := [.lit (.bool false)], args := [d] }
  | _ => none }
def RunsWrongFalsely : Prop := runsRow.holds Tryz.pinned (OpenSpec.ofChange runsWrong)

/-- 'leaklaw.Codes': WHATEVER THE INPUT: true; the input reads as it did. -/
def codesSpec : ChangeSpec := { name := "codes", fn := fun _ => fun
  | [d] => { results := [.lit (.bool true)], args := [d] }
  | _ => none }
def codesRow : OpenClaim := { program := "ytnkbfdbbcaffmaagreatdoor", sum := "4ac6edea6a8270267b6f2cf000a161087b17eba6d9f28e6154bb4aa156d42fc6", func := "leak/leaklaw.Codes", spec := "codes", recurses := true, named := ["leak/circuit.lane"], apart := false, laid := [("leak/circuit.lane", laid_leak_circuit_lane)] }
def CodesSaid : Prop := codesRow.holds Tryz.pinned (OpenSpec.ofChange codesSpec)

/-- ITS FALSE NEIGHBOUR: 'it returns false'. Refute it at one input. -/
def codesWrong : ChangeSpec := { name := "codes", fn := fun _ => fun
  | [d] => { results := [.lit (.bool false)], args := [d] }
  | _ => none }
def CodesWrongFalsely : Prop := codesRow.holds Tryz.pinned (OpenSpec.ofChange codesWrong)

/-- 'leaklaw.Execs': WHATEVER THE INPUT: true; the input reads as it did. -/
def execsSpec : ChangeSpec := { name := "execs", fn := fun _ => fun
  | [d] => { results := [.lit (.bool true)], args := [d] }
  | _ => none }
def execsRow : OpenClaim := { program := "ytnkbfdbbcaffmaagreatdoor", sum := "4ac6edea6a8270267b6f2cf000a161087b17eba6d9f28e6154bb4aa156d42fc6", func := "leak/leaklaw.Execs", spec := "execs", recurses := true, named := ["leak/circuit.lane"], apart := false, laid := [("leak/circuit.lane", laid_leak_circuit_lane)] }
def ExecsSaid : Prop := execsRow.holds Tryz.pinned (OpenSpec.ofChange execsSpec)

/-- ITS FALSE NEIGHBOUR: 'it returns false'. Refute it at one input. -/
def execsWrong : ChangeSpec := { name := "execs", fn := fun _ => fun
  | [d] => { results := [.lit (.bool false)], args := [d] }
  | _ => none }
def ExecsWrongFalsely : Prop := execsRow.holds Tryz.pinned (OpenSpec.ofChange execsWrong)

/-- 'leaklaw.Paths': WHATEVER THE INPUT: true; the input reads as it did. -/
def pathsSpec : ChangeSpec := { name := "paths", fn := fun _ => fun
  | [d] => { results := [.lit (.bool true)], args := [d] }
  | _ => none }
def pathsRow : OpenClaim := { program := "ytnkbfdbbcaffmaagreatdoor", sum := "4ac6edea6a8270267b6f2cf000a161087b17eba6d9f28e6154bb4aa156d42fc6", func := "leak/leaklaw.Paths", spec := "paths", recurses := true, named := ["leak/circuit.lane"], apart := false, laid := [("leak/circuit.lane", laid_leak_circuit_lane)] }
def PathsSaid : Prop := pathsRow.holds Tryz.pinned (OpenSpec.ofChange pathsSpec)

/-- ITS FALSE NEIGHBOUR: 'it returns false'. Refute it at one input. -/
def pathsWrong : ChangeSpec := { name := "paths", fn := fun _ => fun
  | [d] => { results := [.lit (.bool false)], args := [d] }
  | _ => none }
def PathsWrongFalsely : Prop := pathsRow.holds Tryz.pinned (OpenSpec.ofChange pathsWrong)

/-- 'leaklaw.Lowers': WHATEVER THE INPUT: true; the input reads as it did. -/
def lowersSpec : ChangeSpec := { name := "lowers", fn := fun _ => fun
  | [d] => { results := [.lit (.bool true)], args := [d] }
  | _ => none }
def lowersRow : OpenClaim := { program := "ytnkbfdbbcaffmaagreatdoor", sum := "4ac6edea6a8270267b6f2cf000a161087b17eba6d9f28e6154bb4aa156d42fc6", func := "leak/leaklaw.Lowers", spec := "lowers", recurses := true, named := ["leak/circuit.lane"], apart := false, laid := [("leak/circuit.lane", laid_leak_circuit_lane)] }
def LowersSaid : Prop := lowersRow.holds Tryz.pinned (OpenSpec.ofChange lowersSpec)

/-- ITS FALSE NEIGHBOUR: 'it returns false'. Refute it at one input. -/
def lowersWrong : ChangeSpec := { name := "lowers", fn := fun _ => fun
  | [d] => { results := [.lit (.bool false)], args := [d] }
  | _ => none }
def LowersWrongFalsely : Prop := lowersRow.holds Tryz.pinned (OpenSpec.ofChange lowersWrong)

/-- 'leaklaw.Solves': WHATEVER THE INPUT: true; the input reads as it did. -/
def solvesSpec : ChangeSpec := { name := "solves", fn := fun _ => fun
  | [d] => { results := [.lit (.bool true)], args := [d] }
  | _ => none }
def solvesRow : OpenClaim := { program := "ytnkbfdbbcaffmaagreatdoor", sum := "4ac6edea6a8270267b6f2cf000a161087b17eba6d9f28e6154bb4aa156d42fc6", func := "leak/leaklaw.Solves", spec := "solves", recurses := true, named := ["leak/circuit.lane"], apart := false, laid := [("leak/circuit.lane", laid_leak_circuit_lane)] }
def SolvesSaid : Prop := solvesRow.holds Tryz.pinned (OpenSpec.ofChange solvesSpec)

/-- ITS FALSE NEIGHBOUR: 'it returns false'. Refute it at one input. -/
def solvesWrong : ChangeSpec := { name := "solves", fn := fun _ => fun
  | [d] => { results := [.lit (.bool false)], args := [d] }
  | _ => none }
def SolvesWrongFalsely : Prop := solvesRow.holds Tryz.pinned (OpenSpec.ofChange solvesWrong)

/-- 'leaklaw.Decides': WHATEVER THE INPUT: true; the input reads as it did. -/
def decidesSpec : ChangeSpec := { name := "decides", fn := fun _ => fun
  | [d] => { results := [.lit (.bool true)], args := [d] }
  | _ => none }
def decidesRow : OpenClaim := { program := "ytnkbfdbbcaffmaagreatdoor", sum := "4ac6edea6a8270267b6f2cf000a161087b17eba6d9f28e6154bb4aa156d42fc6", func := "leak/leaklaw.Decides", spec := "decides", recurses := true, named := ["leak/circuit.lane"], apart := false, laid := [("leak/circuit.lane", laid_leak_circuit_lane)] }
def DecidesSaid : Prop := decidesRow.holds Tryz.pinned (OpenSpec.ofChange decidesSpec)

/-- ITS FALSE NEIGHBOUR: 'it returns false'. Refute it at one input. -/
def decidesWrong : ChangeSpec := { name := "decides", fn := fun _ => fun
  | [d] => { results := [.lit (.bool false)], args := [d] }
  | _ => none }
def DecidesWrongFalsely : Prop := decidesRow.holds Tryz.pinned (OpenSpec.ofChange decidesWrong)

/-- 'leaklaw.All': WHATEVER THE INPUT: true; the input reads as it did. -/
def allSpec : ChangeSpec := { name := "all", fn := fun _ => fun
  | [d] => { results := [.lit (.bool true)], args := [d] }
  | _ => none }
def allRow : OpenClaim := { program := "ytnkbfdbbcaffmaagreatdoor", sum := "4ac6edea6a8270267b6f2cf000a161087b17eba6d9f28e6154bb4aa156d42fc6", func := "leak/leaklaw.All", spec := "all", recurses := true, named := ["leak/circuit.lane"], apart := false, laid := [("leak/circuit.lane", laid_leak_circuit_lane)] }
def AllSaid : Prop := allRow.holds Tryz.pinned (OpenSpec.ofChange allSpec)

/-- ITS FALSE NEIGHBOUR: 'it returns false'. Refute it at one input. -/
def allWrong : ChangeSpec := { name := "all", fn := fun _ => fun
  | [d] => { results := [.lit (.bool false)], args := [d] }
  | _ => none }
def AllWrongFalsely : Prop := allRow.holds Tryz.pinned (OpenSpec.ofChange allWrong)

/- THE SECOND FORM. 'bulk': how many values and letters a reading holds, each counted each time it is reached (what is shared counts as often as it is met; a slice's spare places count too). A statement '..UptoSaid' is the law's where the arguments, and the package variables that the reading takes, are together of bulk at most 1048576: NARROWER than '..Said'. Prove '..Said' where nothing that the law and all that it calls make is longer than what came in: it says more and counts as full. Else prove '..UptoSaid'. A law counts once. -/
mutual
def uptoBulk {H : Type} : DataW H → Nat
  | .lit (.string bytes) => bytes.length + 1
  | .lit _ => 1
  | .nil => 1
  | .ptr d => uptoBulk d + 1
  | .slice elems spare => uptoBulkAll elems + uptoBulkAll spare + 1
  | .agg parts => uptoBulkAll parts + 1
  | .iface _ d => uptoBulk d + 1
  | .map entries => uptoBulkEntries entries + 1
  | .held _ => 1
def uptoBulkAll {H : Type} : List (DataW H) → Nat
  | [] => 0
  | d :: r => uptoBulk d + uptoBulkAll r
def uptoBulkEntries {H : Type} : List (Lit × DataW H) → Nat
  | [] => 0
  | x :: r => uptoBulkEntry x + uptoBulkEntries r
def uptoBulkEntry {H : Type} : Lit × DataW H → Nat
  | (.string bytes, d) => bytes.length + uptoBulk d + 1
  | (_, d) => uptoBulk d + 1
 end
def uptoSmall : (H : Type) → List (DataW H) → Bool := fun _ ds => decide (uptoBulkAll ds ≤ 1048576)
def OpenSpec.upto (s : _root_.Go.ChangeSpec) : _root_.Go.OpenSpec := { _root_.Go.OpenSpec.ofChange s with cond := some uptoSmall }

/-- 'leaklaw.Checks', WHERE WHAT IT READS IS OF BULK AT MOST 1048576: true; the input reads as it did. -/
def checksUptoRow : OpenClaim := { program := "ytnkbfdbbcaffmaagreatdoor", sum := "4ac6edea6a8270267b6f2cf000a161087b17eba6d9f28e6154bb4aa156d42fc6", func := "leak/leaklaw.Checks", spec := "checks", recurses := true, named := ["leak/circuit.lane"], apart := false, laid := [("leak/circuit.lane", laid_leak_circuit_lane)], narrowed := true }
def ChecksUptoSaid : Prop := checksUptoRow.holds Tryz.pinned (OpenSpec.upto checksSpec)

/-- 'leaklaw.Runs', WHERE WHAT IT READS IS OF BULK AT MOST 1048576: true; the input reads as it did. -/
def runsUptoRow : OpenClaim := { program := "ytnkbfdbbcaffmaagreatdoor", sum := "4ac6edea6a8270267b6f2cf000a161087b17eba6d9f28e6154bb4aa156d42fc6", func := "leak/leaklaw.Runs", spec := "runs", recurses := true, named := ["leak/circuit.lane"], apart := false, laid := [("leak/circuit.lane", laid_leak_circuit_lane)], narrowed := true }
def RunsUptoSaid : Prop := runsUptoRow.holds Tryz.pinned (OpenSpec.upto runsSpec)

/-- 'leaklaw.Codes', WHERE WHAT IT READS IS OF BULK AT MOST 1048576: true; the input reads as it did. -/
def codesUptoRow : OpenClaim := { program := "ytnkbfdbbcaffmaagreatdoor", sum := "4ac6edea6a8270267b6f2cf000a161087b17eba6d9f28e6154bb4aa156d42fc6", func := "leak/leaklaw.Codes", spec := "codes", recurses := true, named := ["leak/circuit.lane"], apart := false, laid := [("leak/circuit.lane", laid_leak_circuit_lane)], narrowed := true }
def CodesUptoSaid : Prop := codesUptoRow.holds Tryz.pinned (OpenSpec.upto codesSpec)

/-- 'leaklaw.Execs', WHERE WHAT IT READS IS OF BULK AT MOST 1048576: true; the input reads as it did. -/
def execsUptoRow : OpenClaim := { program := "ytnkbfdbbcaffmaagreatdoor", sum := "4ac6edea6a8270267b6f2cf000a161087b17eba6d9f28e6154bb4aa156d42fc6", func := "leak/leaklaw.Execs", spec := "execs", recurses := true, named := ["leak/circuit.lane"], apart := false, laid := [("leak/circuit.lane", laid_leak_circuit_lane)], narrowed := true }
def ExecsUptoSaid : Prop := execsUptoRow.holds Tryz.pinned (OpenSpec.upto execsSpec)

/-- 'leaklaw.Paths', WHERE WHAT IT READS IS OF BULK AT MOST 1048576: true; the input reads as it did. -/
def pathsUptoRow : OpenClaim := { program := "ytnkbfdbbcaffmaagreatdoor", sum := "4ac6edea6a8270267b6f2cf000a161087b17eba6d9f28e6154bb4aa156d42fc6", func := "leak/leaklaw.Paths", spec := "paths", recurses := true, named := ["leak/circuit.lane"], apart := false, laid := [("leak/circuit.lane", laid_leak_circuit_lane)], narrowed := true }
def PathsUptoSaid : Prop := pathsUptoRow.holds Tryz.pinned (OpenSpec.upto pathsSpec)

/-- 'leaklaw.Lowers', WHERE WHAT IT READS IS OF BULK AT MOST 1048576: true; the input reads as it did. -/
def lowersUptoRow : OpenClaim := { program := "ytnkbfdbbcaffmaagreatdoor", sum := "4ac6edea6a8270267b6f2cf000a161087b17eba6d9f28e6154bb4aa156d42fc6", func := "leak/leaklaw.Lowers", spec := "lowers", recurses := true, named := ["leak/circuit.lane"], apart := false, laid := [("leak/circuit.lane", laid_leak_circuit_lane)], narrowed := true }
def LowersUptoSaid : Prop := lowersUptoRow.holds Tryz.pinned (OpenSpec.upto lowersSpec)

/-- 'leaklaw.Solves', WHERE WHAT IT READS IS OF BULK AT MOST 1048576: true; the input reads as it did. -/
def solvesUptoRow : OpenClaim := { program := "ytnkbfdbbcaffmaagreatdoor", sum := "4ac6edea6a8270267b6f2cf000a161087b17eba6d9f28e6154bb4aa156d42fc6", func := "leak/leaklaw.Solves", spec := "solves", recurses := true, named := ["leak/circuit.lane"], apart := false, laid := [("leak/circuit.lane", laid_leak_circuit_lane)], narrowed := true }
def SolvesUptoSaid : Prop := solvesUptoRow.holds Tryz.pinned (OpenSpec.upto solvesSpec)

/-- 'leaklaw.Decides', WHERE WHAT IT READS IS OF BULK AT MOST 1048576: true; the input reads as it did. -/
def decidesUptoRow : OpenClaim := { program := "ytnkbfdbbcaffmaagreatdoor", sum := "4ac6edea6a8270267b6f2cf000a161087b17eba6d9f28e6154bb4aa156d42fc6", func := "leak/leaklaw.Decides", spec := "decides", recurses := true, named := ["leak/circuit.lane"], apart := false, laid := [("leak/circuit.lane", laid_leak_circuit_lane)], narrowed := true }
def DecidesUptoSaid : Prop := decidesUptoRow.holds Tryz.pinned (OpenSpec.upto decidesSpec)

/-- 'leaklaw.All', WHERE WHAT IT READS IS OF BULK AT MOST 1048576: true; the input reads as it did. -/
def allUptoRow : OpenClaim := { program := "ytnkbfdbbcaffmaagreatdoor", sum := "4ac6edea6a8270267b6f2cf000a161087b17eba6d9f28e6154bb4aa156d42fc6", func := "leak/leaklaw.All", spec := "all", recurses := true, named := ["leak/circuit.lane"], apart := false, laid := [("leak/circuit.lane", laid_leak_circuit_lane)], narrowed := true }
def AllUptoSaid : Prop := allUptoRow.holds Tryz.pinned (OpenSpec.upto allSpec)

end Rows
end Go.Proofs.YtnkbfdbbcaffmaaGreatDoor
