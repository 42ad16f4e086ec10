/-
  No cell of these rows narrows 'for every input' (looked for: loops, veiled, ifaces, maps, wideKeys, modest, calm, conditions, laid).
  DERIVED. THE GIVEN ROWS OF THIS SEAT. 3 by the template 'for every input the law returns true; each argument reads behind the call as it read before'; 0 by the template 'total and deterministic' (their statements: YtnkbfdbbcaffmaaTotals.lean).
  GIVEN WITH THE SEED: the statements are not yours to turn. If you find one false, say at which input.
  Laid BY PROGRAM, IN A SANDBOX (cutbox-rows.mjs): the forced cells as the released guide's own fill.sh prints them over the translation f4a32b9e19e374de… (all of the seat's roots in one cut). By AI agents, Wed Nov 11 2026. No macro, syntax, notation, axiom, sorry.
-/
import Derived.Test.YtnkbfdbbcaffmaaChecked
import GoSem.Claim
import GoSem.ClaimJoined
import GoSem.ClaimMapViews
import Derived.JoinedTies
import Derived.KernelRfl
namespace Go.Proofs.Ytnkbfdbbcaffmaa
/- THE CELL 'sum', in the pinned program and in every row, IS THE sha256 OF THE DUMP (.gsa) THAT YtnkbfdbbcaffmaaProg.lean LOADS. Nothing in Lean hashes anything: it is a label: what it is worth is what the hold of that sum in a sandbox is worth. -/
noncomputable def Try.pinned : Pinned := { name := "ytnkbfdbbcaffmaa", sum := "f4a32b9e19e374de2d7f7ba9fe70a7a3483c331e2405b05d533f49edc99af922", checked := Try.checked }
namespace Rows
def none {H : Type} : Left H := { results := [], args := [] }

/-- 'leakkeep.Coarse': WHATEVER THE INPUT: true; the input reads as it did. -/
def coarseSpec : ChangeSpec := { name := "coarse", fn := fun _ => fun
  | [d1, d2, d3] => { results := [.lit (.bool true)], args := [d1, d2, d3] }
  | _ => none }
def coarseRow : OpenClaim := { program := "ytnkbfdbbcaffmaa", sum := "f4a32b9e19e374de2d7f7ba9fe70a7a3483c331e2405b05d533f49edc99af922", func := "leak/leakkeep.Coarse", spec := "coarse", recurses := true, apart := false }
def CoarseSaid : Prop := coarseRow.holds Try.pinned (OpenSpec.ofChange coarseSpec)

/-- ITS FALSE NEIGHBOUR: 'it returns false'. Refute it at one input. -/
def coarseWrong : ChangeSpec := { name := "coarse", fn := fun _ => fun
  | [d1, d2, d3] => { results := [.lit (.bool false)], args := [d1, d2, d3] }
  | _ => none }
def CoarseWrongFalsely : Prop := coarseRow.holds Try.pinned (OpenSpec.ofChange coarseWrong)

/-- 'leakkeep.Longer': WHATEVER THE INPUT: true; the input reads as it did. -/
def longerSpec : ChangeSpec := { name := "longer", fn := fun _ => fun
  | [d1, d2, d3, d4, d5] => { results := [.lit (.bool true)], args := [d1, d2, d3, d4, d5] }
  | _ => none }
def longerRow : OpenClaim := { program := "ytnkbfdbbcaffmaa", sum := "f4a32b9e19e374de2d7f7ba9fe70a7a3483c331e2405b05d533f49edc99af922", func := "leak/leakkeep.Longer", spec := "longer", recurses := true, apart := false }
def LongerSaid : Prop := longerRow.holds Try.pinned (OpenSpec.ofChange longerSpec)

/-- ITS FALSE NEIGHBOUR: 'it returns false'. Refute it at one input. -/
def longerWrong : ChangeSpec := { name := "longer", fn := fun _ => fun
  | [d1, d2, d3, d4, d5] => { results := [.lit (.bool false)], args := [d1, d2, d3, d4, d5] }
  | _ => none }
def LongerWrongFalsely : Prop := longerRow.holds Try.pinned (OpenSpec.ofChange longerWrong)

/-- 'leakkeep.Blind': WHATEVER THE INPUT: true; the input reads as it did. -/
def blindSpec : ChangeSpec := { name := "blind", fn := fun _ => fun
  | [d1, d2, d3, d4, d5, d6] => { results := [.lit (.bool true)], args := [d1, d2, d3, d4, d5, d6] }
  | _ => none }
def blindRow : OpenClaim := { program := "ytnkbfdbbcaffmaa", sum := "f4a32b9e19e374de2d7f7ba9fe70a7a3483c331e2405b05d533f49edc99af922", func := "leak/leakkeep.Blind", spec := "blind", recurses := true, apart := false }
def BlindSaid : Prop := blindRow.holds Try.pinned (OpenSpec.ofChange blindSpec)

/-- ITS FALSE NEIGHBOUR: 'it returns false'. Refute it at one input. -/
def blindWrong : ChangeSpec := { name := "blind", fn := fun _ => fun
  | [d1, d2, d3, d4, d5, d6] => { results := [.lit (.bool false)], args := [d1, d2, d3, d4, d5, d6] }
  | _ => none }
def BlindWrongFalsely : Prop := blindRow.holds Try.pinned (OpenSpec.ofChange blindWrong)

/- THE SECOND FORM. 'bulk': how many values and letters a reading holds, each counted each time it is reached (what is shared counts as often as it is met; a slice's spare places count too). A statement '..UptoSaid' is the law's where the arguments, and the package variables that the reading takes, are together of bulk at most 1048576: NARROWER than '..Said'. Prove '..Said' where nothing that the law and all that it calls make is longer than what came in: it says more and counts as full. Else prove '..UptoSaid'. A law counts once. -/
mutual
def uptoBulk {H : Type} : DataW H → Nat
  | .lit (.string bytes) => bytes.length + 1
  | .lit _ => 1
  | .nil => 1
  | .ptr d => uptoBulk d + 1
  | .slice elems spare => uptoBulkAll elems + uptoBulkAll spare + 1
  | .agg parts => uptoBulkAll parts + 1
  | .iface _ d => uptoBulk d + 1
  | .map entries => uptoBulkEntries entries + 1
  | .held _ => 1
def uptoBulkAll {H : Type} : List (DataW H) → Nat
  | [] => 0
  | d :: r => uptoBulk d + uptoBulkAll r
def uptoBulkEntries {H : Type} : List (Lit × DataW H) → Nat
  | [] => 0
  | x :: r => uptoBulkEntry x + uptoBulkEntries r
def uptoBulkEntry {H : Type} : Lit × DataW H → Nat
  | (.string bytes, d) => bytes.length + uptoBulk d + 1
  | (_, d) => uptoBulk d + 1
 end
def uptoSmall : (H : Type) → List (DataW H) → Bool := fun _ ds => decide (uptoBulkAll ds ≤ 1048576)
def OpenSpec.upto (s : _root_.Go.ChangeSpec) : _root_.Go.OpenSpec := { _root_.Go.OpenSpec.ofChange s with cond := some uptoSmall }

/-- 'leakkeep.Coarse', WHERE WHAT IT READS IS OF BULK AT MOST 1048576: true; the input reads as it did. -/
def coarseUptoRow : OpenClaim := { program := "ytnkbfdbbcaffmaa", sum := "f4a32b9e19e374de2d7f7ba9fe70a7a3483c331e2405b05d533f49edc99af922", func := "leak/leakkeep.Coarse", spec := "coarse", recurses := true, apart := false, narrowed := true }
def CoarseUptoSaid : Prop := coarseUptoRow.holds Try.pinned (OpenSpec.upto coarseSpec)

/-- 'leakkeep.Longer', WHERE WHAT IT READS IS OF BULK AT MOST 1048576: true; the input reads as it did. -/
def longerUptoRow : OpenClaim := { program := "ytnkbfdbbcaffmaa", sum := "f4a32b9e19e374de2d7f7ba9fe70a7a3483c331e2405b05d533f49edc99af922", func := "leak/leakkeep.Longer", spec := "longer", recurses := true, apart := false, narrowed := true }
def LongerUptoSaid : Prop := longerUptoRow.holds Try.pinned (OpenSpec.upto longerSpec)

/-- 'leakkeep.Blind', WHERE WHAT IT READS IS OF BULK AT MOST 1048576: true; the input reads as it did. -/
def blindUptoRow : OpenClaim := { program := "ytnkbfdbbcaffmaa", sum := "f4a32b9e19e374de2d7f7ba9fe70a7a3483c331e2405b05d533f49edc99af922", func := "leak/leakkeep.Blind", spec := "blind", recurses := true, apart := false, narrowed := true }
def BlindUptoSaid : Prop := blindUptoRow.holds Try.pinned (OpenSpec.upto blindSpec)

end Rows
end Go.Proofs.Ytnkbfdbbcaffmaa
