/-
  DERIVED. GIVEN WITH THE SEED: THE CARDS: each row of YtnkbfdbbcaffmaaGreatDoorRows.lean that lists a variable, with what it lists TIED to the program's text (the seventh form; the later family's looks); each row that meets fmt, with fmt's text TOLD by the authors' own Lean function (tested against real Go, not proved from fmt's source: count such statements apart). THE CARD IS WHAT COUNTS. Prove the row's statement (the work); the ties are given (YtnkbfdbbcaffmaaGreatDoorTie.lean); close each card by the builder's one call (the guide's Derived/Test/ToyasCard.lean, 'card_holds'). Laid BY PROGRAM, IN A SANDBOX (cutbox-door.mjs). By AI agents, Wed Nov 11 2026. No macro, syntax, notation, axiom, sorry.
-/
import Derived.Test.YtnkbfdbbcaffmaaGreatDoorRows
import GoSem.ClaimSeven
namespace Go.Proofs.YtnkbfdbbcaffmaaGreatDoor
namespace Rows

/-- THE TIED CARD OF 'leaklaw.Checks'. -/
def checksCard : Claim7 := { stood := { row := checksRow, standIns := [], harness := (true, "19f32f3b99373708ffeef7f2bceabd206d04c0ba59e7782c0add4170ff50a9af"), looks := false }, kinds := [], alts := [], laidByText := true, laidKinds := [.data], laidTests := true, laidLooks := .later }
def ChecksCardSaid : Prop := Claim7.holds Tryz.pinned (.plain (OpenSpec.ofChange checksSpec)) checksCard

/-- THE TIED CARD OF 'leaklaw.Runs'. -/
def runsCard : Claim7 := { stood := { row := runsRow, standIns := [], harness := (true, "19f32f3b99373708ffeef7f2bceabd206d04c0ba59e7782c0add4170ff50a9af"), looks := false }, kinds := [], alts := [], laidByText := true, laidKinds := [.data], laidTests := true, laidLooks := .later }
def RunsCardSaid : Prop := Claim7.holds Tryz.pinned (.plain (OpenSpec.ofChange runsSpec)) runsCard

/-- THE TIED CARD OF 'leaklaw.Codes'. -/
def codesCard : Claim7 := { stood := { row := codesRow, standIns := [], harness := (true, "19f32f3b99373708ffeef7f2bceabd206d04c0ba59e7782c0add4170ff50a9af"), looks := false }, kinds := [], alts := [], laidByText := true, laidKinds := [.data], laidTests := true, laidLooks := .later }
def CodesCardSaid : Prop := Claim7.holds Tryz.pinned (.plain (OpenSpec.ofChange codesSpec)) codesCard

/-- THE TIED CARD OF 'leaklaw.Execs'. -/
def execsCard : Claim7 := { stood := { row := execsRow, standIns := [], harness := (true, "19f32f3b99373708ffeef7f2bceabd206d04c0ba59e7782c0add4170ff50a9af"), looks := false }, kinds := [], alts := [], laidByText := true, laidKinds := [.data], laidTests := true, laidLooks := .later }
def ExecsCardSaid : Prop := Claim7.holds Tryz.pinned (.plain (OpenSpec.ofChange execsSpec)) execsCard

/-- THE TIED CARD OF 'leaklaw.Paths'. -/
def pathsCard : Claim7 := { stood := { row := pathsRow, standIns := [], harness := (true, "19f32f3b99373708ffeef7f2bceabd206d04c0ba59e7782c0add4170ff50a9af"), looks := false }, kinds := [], alts := [], laidByText := true, laidKinds := [.data], laidTests := true, laidLooks := .later }
def PathsCardSaid : Prop := Claim7.holds Tryz.pinned (.plain (OpenSpec.ofChange pathsSpec)) pathsCard

/-- THE TIED CARD OF 'leaklaw.Lowers'. -/
def lowersCard : Claim7 := { stood := { row := lowersRow, standIns := [], harness := (true, "19f32f3b99373708ffeef7f2bceabd206d04c0ba59e7782c0add4170ff50a9af"), looks := false }, kinds := [], alts := [], laidByText := true, laidKinds := [.data], laidTests := true, laidLooks := .later }
def LowersCardSaid : Prop := Claim7.holds Tryz.pinned (.plain (OpenSpec.ofChange lowersSpec)) lowersCard

/-- THE TIED CARD OF 'leaklaw.Solves'. -/
def solvesCard : Claim7 := { stood := { row := solvesRow, standIns := [], harness := (true, "19f32f3b99373708ffeef7f2bceabd206d04c0ba59e7782c0add4170ff50a9af"), looks := false }, kinds := [], alts := [], laidByText := true, laidKinds := [.data], laidTests := true, laidLooks := .later }
def SolvesCardSaid : Prop := Claim7.holds Tryz.pinned (.plain (OpenSpec.ofChange solvesSpec)) solvesCard

/-- THE TIED CARD OF 'leaklaw.Decides'. -/
def decidesCard : Claim7 := { stood := { row := decidesRow, standIns := [], harness := (true, "19f32f3b99373708ffeef7f2bceabd206d04c0ba59e7782c0add4170ff50a9af"), looks := false }, kinds := [], alts := [], laidByText := true, laidKinds := [.data], laidTests := true, laidLooks := .later }
def DecidesCardSaid : Prop := Claim7.holds Tryz.pinned (.plain (OpenSpec.ofChange decidesSpec)) decidesCard

/-- THE TIED CARD OF 'leaklaw.All'. -/
def allCard : Claim7 := { stood := { row := allRow, standIns := [], harness := (true, "19f32f3b99373708ffeef7f2bceabd206d04c0ba59e7782c0add4170ff50a9af"), looks := false }, kinds := [], alts := [], laidByText := true, laidKinds := [.data], laidTests := true, laidLooks := .later }
def AllCardSaid : Prop := Claim7.holds Tryz.pinned (.plain (OpenSpec.ofChange allSpec)) allCard

/-- THE SECOND FORM's CARD OF 'leaklaw.Checks'. -/
def checksUptoCard : Claim7 := { stood := { row := checksUptoRow, standIns := [], harness := (true, "19f32f3b99373708ffeef7f2bceabd206d04c0ba59e7782c0add4170ff50a9af"), looks := false }, kinds := [], alts := [], laidByText := true, laidKinds := [.data], laidTests := true, laidLooks := .later }
def ChecksUptoCardSaid : Prop := Claim7.holds Tryz.pinned (.plain (OpenSpec.upto checksSpec)) checksUptoCard

/-- THE SECOND FORM's CARD OF 'leaklaw.Runs'. -/
def runsUptoCard : Claim7 := { stood := { row := runsUptoRow, standIns := [], harness := (true, "19f32f3b99373708ffeef7f2bceabd206d04c0ba59e7782c0add4170ff50a9af"), looks := false }, kinds := [], alts := [], laidByText := true, laidKinds := [.data], laidTests := true, laidLooks := .later }
def RunsUptoCardSaid : Prop := Claim7.holds Tryz.pinned (.plain (OpenSpec.upto runsSpec)) runsUptoCard

/-- THE SECOND FORM's CARD OF 'leaklaw.Codes'. -/
def codesUptoCard : Claim7 := { stood := { row := codesUptoRow, standIns := [], harness := (true, "19f32f3b99373708ffeef7f2bceabd206d04c0ba59e7782c0add4170ff50a9af"), looks := false }, kinds := [], alts := [], laidByText := true, laidKinds := [.data], laidTests := true, laidLooks := .later }
def CodesUptoCardSaid : Prop := Claim7.holds Tryz.pinned (.plain (OpenSpec.upto codesSpec)) codesUptoCard

/-- THE SECOND FORM's CARD OF 'leaklaw.Execs'. -/
def execsUptoCard : Claim7 := { stood := { row := execsUptoRow, standIns := [], harness := (true, "19f32f3b99373708ffeef7f2bceabd206d04c0ba59e7782c0add4170ff50a9af"), looks := false }, kinds := [], alts := [], laidByText := true, laidKinds := [.data], laidTests := true, laidLooks := .later }
def ExecsUptoCardSaid : Prop := Claim7.holds Tryz.pinned (.plain (OpenSpec.upto execsSpec)) execsUptoCard

/-- THE SECOND FORM's CARD OF 'leaklaw.Paths'. -/
def pathsUptoCard : Claim7 := { stood := { row := pathsUptoRow, standIns := [], harness := (true, "19f32f3b99373708ffeef7f2bceabd206d04c0ba59e7782c0add4170ff50a9af"), looks := false }, kinds := [], alts := [], laidByText := true, laidKinds := [.data], laidTests := true, laidLooks := .later }
def PathsUptoCardSaid : Prop := Claim7.holds Tryz.pinned (.plain (OpenSpec.upto pathsSpec)) pathsUptoCard

/-- THE SECOND FORM's CARD OF 'leaklaw.Lowers'. -/
def lowersUptoCard : Claim7 := { stood := { row := lowersUptoRow, standIns := [], harness := (true, "19f32f3b99373708ffeef7f2bceabd206d04c0ba59e7782c0add4170ff50a9af"), looks := false }, kinds := [], alts := [], laidByText := true, laidKinds := [.data], laidTests := true, laidLooks := .later }
def LowersUptoCardSaid : Prop := Claim7.holds Tryz.pinned (.plain (OpenSpec.upto lowersSpec)) lowersUptoCard

/-- THE SECOND FORM's CARD OF 'leaklaw.Solves'. -/
def solvesUptoCard : Claim7 := { stood := { row := solvesUptoRow, standIns := [], harness := (true, "19f32f3b99373708ffeef7f2bceabd206d04c0ba59e7782c0add4170ff50a9af"), looks := false }, kinds := [], alts := [], laidByText := true, laidKinds := [.data], laidTests := true, laidLooks := .later }
def SolvesUptoCardSaid : Prop := Claim7.holds Tryz.pinned (.plain (OpenSpec.upto solvesSpec)) solvesUptoCard

/-- THE SECOND FORM's CARD OF 'leaklaw.Decides'. -/
def decidesUptoCard : Claim7 := { stood := { row := decidesUptoRow, standIns := [], harness := (true, "19f32f3b99373708ffeef7f2bceabd206d04c0ba59e7782c0add4170ff50a9af"), looks := false }, kinds := [], alts := [], laidByText := true, laidKinds := [.data], laidTests := true, laidLooks := .later }
def DecidesUptoCardSaid : Prop := Claim7.holds Tryz.pinned (.plain (OpenSpec.upto decidesSpec)) decidesUptoCard

/-- THE SECOND FORM's CARD OF 'leaklaw.All'. -/
def allUptoCard : Claim7 := { stood := { row := allUptoRow, standIns := [], harness := (true, "19f32f3b99373708ffeef7f2bceabd206d04c0ba59e7782c0add4170ff50a9af"), looks := false }, kinds := [], alts := [], laidByText := true, laidKinds := [.data], laidTests := true, laidLooks := .later }
def AllUptoCardSaid : Prop := Claim7.holds Tryz.pinned (.plain (OpenSpec.upto allSpec)) allUptoCard
end Rows
end Go.Proofs.YtnkbfdbbcaffmaaGreatDoor
