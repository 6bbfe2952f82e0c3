/-
  DERIVED. GIVEN WITH THE SEED: THE CARDS: each row of YtljjgakfnajifaaGreatDoorRows.lean that lists a variable, with what it lists TIED to the program's text (the seventh form; the later family's looks); each row that meets fmt, with fmt's text TOLD by the authors' own Lean function (tested against real Go, not proved from fmt's source: count such statements apart). THE CARD IS WHAT COUNTS. Prove the row's statement (the work); the ties are given (YtljjgakfnajifaaGreatDoorTie.lean); close each card by the builder's one call (the guide's Derived/Test/ToyasCard.lean, 'card_holds'). Laid BY PROGRAM, IN A SANDBOX (cutbox-door.mjs). By AI agents, Wed Nov 11 2026. No macro, syntax, notation, axiom, sorry.
-/
import Derived.Test.YtljjgakfnajifaaGreatDoorRows
import GoSem.ClaimSeven
namespace Go.Proofs.YtljjgakfnajifaaGreatDoor
namespace Rows

/-- THE TIED CARD OF 'joysticklaw12.CpuNames'. -/
def cpuNamesCard : Claim7 := { stood := { row := cpuNamesRow, standIns := [], harness := (true, "bc022ad44a814a78a84fc8fea1881ee43b056f456a757c6479b8d61bcafdd1b1"), looks := false }, kinds := [], alts := [], laidByText := true, laidKinds := [.data, .data], laidTests := true, laidLooks := .later }
def CpuNamesCardSaid : Prop := Claim7.holds Tryz.pinned (.plain (OpenSpec.ofChange cpuNamesSpec)) cpuNamesCard

/-- THE TIED CARD OF 'joysticklaw12.CpuSteps'. -/
def cpuStepsCard : Claim7 := { stood := { row := cpuStepsRow, standIns := [], harness := (true, "bc022ad44a814a78a84fc8fea1881ee43b056f456a757c6479b8d61bcafdd1b1"), looks := false }, kinds := [], alts := [], laidByText := true, laidKinds := [.data, .data], laidTests := true, laidLooks := .later }
def CpuStepsCardSaid : Prop := Claim7.holds Tryz.pinned (.plain (OpenSpec.ofChange cpuStepsSpec)) cpuStepsCard

/-- THE TIED CARD OF 'joysticklaw12.CpuRuns'. -/
def cpuRunsCard : Claim7 := { stood := { row := cpuRunsRow, standIns := [], harness := (true, "bc022ad44a814a78a84fc8fea1881ee43b056f456a757c6479b8d61bcafdd1b1"), looks := false }, kinds := [], alts := [], laidByText := true, laidKinds := [.data, .data], laidTests := true, laidLooks := .later }
def CpuRunsCardSaid : Prop := Claim7.holds Tryz.pinned (.plain (OpenSpec.ofChange cpuRunsSpec)) cpuRunsCard

/-- THE TIED CARD OF 'joysticklaw12.CpuInterrupts'. -/
def cpuInterruptsCard : Claim7 := { stood := { row := cpuInterruptsRow, standIns := [], harness := (true, "bc022ad44a814a78a84fc8fea1881ee43b056f456a757c6479b8d61bcafdd1b1"), looks := false }, kinds := [], alts := [], laidByText := true, laidKinds := [.data, .data], laidTests := true, laidLooks := .later }
def CpuInterruptsCardSaid : Prop := Claim7.holds Tryz.pinned (.plain (OpenSpec.ofChange cpuInterruptsSpec)) cpuInterruptsCard

/-- THE TIED CARD OF 'joysticklaw12.CpuMoves'. -/
def cpuMovesCard : Claim7 := { stood := { row := cpuMovesRow, standIns := [], harness := (true, "bc022ad44a814a78a84fc8fea1881ee43b056f456a757c6479b8d61bcafdd1b1"), looks := false }, kinds := [], alts := [], laidByText := true, laidKinds := [.data, .data], laidTests := true, laidLooks := .later }
def CpuMovesCardSaid : Prop := Claim7.holds Tryz.pinned (.plain (OpenSpec.ofChange cpuMovesSpec)) cpuMovesCard

/-- THE TIED CARD OF 'joysticklaw12.CpuBack'. -/
def cpuBackCard : Claim7 := { stood := { row := cpuBackRow, standIns := [], harness := (true, "bc022ad44a814a78a84fc8fea1881ee43b056f456a757c6479b8d61bcafdd1b1"), looks := false }, kinds := [], alts := [], laidByText := true, laidKinds := [.data, .data], laidTests := true, laidLooks := .later }
def CpuBackCardSaid : Prop := Claim7.holds Tryz.pinned (.plain (OpenSpec.ofChange cpuBackSpec)) cpuBackCard

/-- THE TIED CARD OF 'joysticklaw12.CpuCopies'. -/
def cpuCopiesCard : Claim7 := { stood := { row := cpuCopiesRow, standIns := [], harness := (true, "bc022ad44a814a78a84fc8fea1881ee43b056f456a757c6479b8d61bcafdd1b1"), looks := false }, kinds := [], alts := [], laidByText := true, laidKinds := [.data, .data], laidTests := true, laidLooks := .later }
def CpuCopiesCardSaid : Prop := Claim7.holds Tryz.pinned (.plain (OpenSpec.ofChange cpuCopiesSpec)) cpuCopiesCard

/-- THE TIED CARD OF 'joysticklaw12.CpuPrefixes'. -/
def cpuPrefixesCard : Claim7 := { stood := { row := cpuPrefixesRow, standIns := [], harness := (true, "bc022ad44a814a78a84fc8fea1881ee43b056f456a757c6479b8d61bcafdd1b1"), looks := false }, kinds := [], alts := [], laidByText := true, laidKinds := [.data, .data], laidTests := true, laidLooks := .later }
def CpuPrefixesCardSaid : Prop := Claim7.holds Tryz.pinned (.plain (OpenSpec.ofChange cpuPrefixesSpec)) cpuPrefixesCard

/-- THE TIED CARD OF 'joysticklaw12.CpuCalls'. -/
def cpuCallsCard : Claim7 := { stood := { row := cpuCallsRow, standIns := [], harness := (true, "bc022ad44a814a78a84fc8fea1881ee43b056f456a757c6479b8d61bcafdd1b1"), looks := false }, kinds := [], alts := [], laidByText := true, laidKinds := [.data, .data], laidTests := true, laidLooks := .later }
def CpuCallsCardSaid : Prop := Claim7.holds Tryz.pinned (.plain (OpenSpec.ofChange cpuCallsSpec)) cpuCallsCard

/-- THE TIED CARD OF 'joysticklaw12.CpuCounts'. -/
def cpuCountsCard : Claim7 := { stood := { row := cpuCountsRow, standIns := [], harness := (true, "bc022ad44a814a78a84fc8fea1881ee43b056f456a757c6479b8d61bcafdd1b1"), looks := false }, kinds := [], alts := [], laidByText := true, laidKinds := [.data, .data], laidTests := true, laidLooks := .later }
def CpuCountsCardSaid : Prop := Claim7.holds Tryz.pinned (.plain (OpenSpec.ofChange cpuCountsSpec)) cpuCountsCard

/-- THE SECOND FORM's CARD OF 'joysticklaw12.CpuNames'. -/
def cpuNamesUptoCard : Claim7 := { stood := { row := cpuNamesUptoRow, standIns := [], harness := (true, "bc022ad44a814a78a84fc8fea1881ee43b056f456a757c6479b8d61bcafdd1b1"), looks := false }, kinds := [], alts := [], laidByText := true, laidKinds := [.data, .data], laidTests := true, laidLooks := .later }
def CpuNamesUptoCardSaid : Prop := Claim7.holds Tryz.pinned (.plain (OpenSpec.upto cpuNamesSpec)) cpuNamesUptoCard

/-- THE SECOND FORM's CARD OF 'joysticklaw12.CpuSteps'. -/
def cpuStepsUptoCard : Claim7 := { stood := { row := cpuStepsUptoRow, standIns := [], harness := (true, "bc022ad44a814a78a84fc8fea1881ee43b056f456a757c6479b8d61bcafdd1b1"), looks := false }, kinds := [], alts := [], laidByText := true, laidKinds := [.data, .data], laidTests := true, laidLooks := .later }
def CpuStepsUptoCardSaid : Prop := Claim7.holds Tryz.pinned (.plain (OpenSpec.upto cpuStepsSpec)) cpuStepsUptoCard

/-- THE SECOND FORM's CARD OF 'joysticklaw12.CpuRuns'. -/
def cpuRunsUptoCard : Claim7 := { stood := { row := cpuRunsUptoRow, standIns := [], harness := (true, "bc022ad44a814a78a84fc8fea1881ee43b056f456a757c6479b8d61bcafdd1b1"), looks := false }, kinds := [], alts := [], laidByText := true, laidKinds := [.data, .data], laidTests := true, laidLooks := .later }
def CpuRunsUptoCardSaid : Prop := Claim7.holds Tryz.pinned (.plain (OpenSpec.upto cpuRunsSpec)) cpuRunsUptoCard

/-- THE SECOND FORM's CARD OF 'joysticklaw12.CpuInterrupts'. -/
def cpuInterruptsUptoCard : Claim7 := { stood := { row := cpuInterruptsUptoRow, standIns := [], harness := (true, "bc022ad44a814a78a84fc8fea1881ee43b056f456a757c6479b8d61bcafdd1b1"), looks := false }, kinds := [], alts := [], laidByText := true, laidKinds := [.data, .data], laidTests := true, laidLooks := .later }
def CpuInterruptsUptoCardSaid : Prop := Claim7.holds Tryz.pinned (.plain (OpenSpec.upto cpuInterruptsSpec)) cpuInterruptsUptoCard

/-- THE SECOND FORM's CARD OF 'joysticklaw12.CpuMoves'. -/
def cpuMovesUptoCard : Claim7 := { stood := { row := cpuMovesUptoRow, standIns := [], harness := (true, "bc022ad44a814a78a84fc8fea1881ee43b056f456a757c6479b8d61bcafdd1b1"), looks := false }, kinds := [], alts := [], laidByText := true, laidKinds := [.data, .data], laidTests := true, laidLooks := .later }
def CpuMovesUptoCardSaid : Prop := Claim7.holds Tryz.pinned (.plain (OpenSpec.upto cpuMovesSpec)) cpuMovesUptoCard

/-- THE SECOND FORM's CARD OF 'joysticklaw12.CpuBack'. -/
def cpuBackUptoCard : Claim7 := { stood := { row := cpuBackUptoRow, standIns := [], harness := (true, "bc022ad44a814a78a84fc8fea1881ee43b056f456a757c6479b8d61bcafdd1b1"), looks := false }, kinds := [], alts := [], laidByText := true, laidKinds := [.data, .data], laidTests := true, laidLooks := .later }
def CpuBackUptoCardSaid : Prop := Claim7.holds Tryz.pinned (.plain (OpenSpec.upto cpuBackSpec)) cpuBackUptoCard

/-- THE SECOND FORM's CARD OF 'joysticklaw12.CpuCopies'. -/
def cpuCopiesUptoCard : Claim7 := { stood := { row := cpuCopiesUptoRow, standIns := [], harness := (true, "bc022ad44a814a78a84fc8fea1881ee43b056f456a757c6479b8d61bcafdd1b1"), looks := false }, kinds := [], alts := [], laidByText := true, laidKinds := [.data, .data], laidTests := true, laidLooks := .later }
def CpuCopiesUptoCardSaid : Prop := Claim7.holds Tryz.pinned (.plain (OpenSpec.upto cpuCopiesSpec)) cpuCopiesUptoCard

/-- THE SECOND FORM's CARD OF 'joysticklaw12.CpuPrefixes'. -/
def cpuPrefixesUptoCard : Claim7 := { stood := { row := cpuPrefixesUptoRow, standIns := [], harness := (true, "bc022ad44a814a78a84fc8fea1881ee43b056f456a757c6479b8d61bcafdd1b1"), looks := false }, kinds := [], alts := [], laidByText := true, laidKinds := [.data, .data], laidTests := true, laidLooks := .later }
def CpuPrefixesUptoCardSaid : Prop := Claim7.holds Tryz.pinned (.plain (OpenSpec.upto cpuPrefixesSpec)) cpuPrefixesUptoCard

/-- THE SECOND FORM's CARD OF 'joysticklaw12.CpuCalls'. -/
def cpuCallsUptoCard : Claim7 := { stood := { row := cpuCallsUptoRow, standIns := [], harness := (true, "bc022ad44a814a78a84fc8fea1881ee43b056f456a757c6479b8d61bcafdd1b1"), looks := false }, kinds := [], alts := [], laidByText := true, laidKinds := [.data, .data], laidTests := true, laidLooks := .later }
def CpuCallsUptoCardSaid : Prop := Claim7.holds Tryz.pinned (.plain (OpenSpec.upto cpuCallsSpec)) cpuCallsUptoCard

/-- THE SECOND FORM's CARD OF 'joysticklaw12.CpuCounts'. -/
def cpuCountsUptoCard : Claim7 := { stood := { row := cpuCountsUptoRow, standIns := [], harness := (true, "bc022ad44a814a78a84fc8fea1881ee43b056f456a757c6479b8d61bcafdd1b1"), looks := false }, kinds := [], alts := [], laidByText := true, laidKinds := [.data, .data], laidTests := true, laidLooks := .later }
def CpuCountsUptoCardSaid : Prop := Claim7.holds Tryz.pinned (.plain (OpenSpec.upto cpuCountsSpec)) cpuCountsUptoCard
end Rows
end Go.Proofs.YtljjgakfnajifaaGreatDoor
