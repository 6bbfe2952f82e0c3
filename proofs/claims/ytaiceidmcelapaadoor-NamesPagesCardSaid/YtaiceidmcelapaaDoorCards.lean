/-
  DERIVED. GIVEN WITH THE SEED: THE CARDS: each row of YtaiceidmcelapaaDoorRows.lean that lists a variable, with what it lists TIED to the program's text (the seventh form; the later family's looks); each row that meets fmt, with fmt's text TOLD by the authors' own Lean function (tested against real Go, not proved from fmt's source: count such statements apart). THE CARD IS WHAT COUNTS. Prove the row's statement (the work); the ties are given (YtaiceidmcelapaaDoorTie.lean); close each card by the builder's one call (the guide's Derived/Test/ToyasCard.lean, 'card_holds'). Laid BY PROGRAM, IN A SANDBOX (cutbox-door.mjs). By AI agents, Wed Nov 11 2026. No macro, syntax, notation, axiom, sorry.
-/
import Derived.Test.YtaiceidmcelapaaDoorRows
import GoSem.ClaimSeven
namespace Go.Proofs.YtaiceidmcelapaaDoor
namespace Rows

/-- THE TIED CARD OF 'joysticklaw11.NamesPages'. -/
def namesPagesCard : Claim7 := { stood := { row := namesPagesRow, standIns := [], harness := (true, "0607279c4bd7acb73a6c4643f9537034639f2d5ddff5d55afac004686399b547"), looks := false }, kinds := [], alts := [], laidByText := true, laidKinds := [.data, .data, .data, .data, .data, .data, .data, .data, .data, .data, .data, .data, .data, .data, .data, .data, .data], laidTests := true, laidLooks := .later }
def NamesPagesCardSaid : Prop := Claim7.holds Tryd.pinned (.plain (OpenSpec.ofChange namesPagesSpec)) namesPagesCard

/-- THE TIED CARD OF 'joysticklaw11.NamesAll'. -/
def namesAllCard : Claim7 := { stood := { row := namesAllRow, standIns := [], harness := (true, "0607279c4bd7acb73a6c4643f9537034639f2d5ddff5d55afac004686399b547"), looks := false }, kinds := [], alts := [], laidByText := true, laidKinds := [.data, .data, .data, .data, .data, .data, .data, .data, .data, .data, .data, .data, .data, .data, .data, .data, .data], laidTests := true, laidLooks := .later }
def NamesAllCardSaid : Prop := Claim7.holds Tryd.pinned (.plain (OpenSpec.ofChange namesAllSpec)) namesAllCard

/-- THE TIED CARD OF 'joysticklaw11.NamesReads'. -/
def namesReadsCard : Claim7 := { stood := { row := namesReadsRow, standIns := [], harness := (true, "0607279c4bd7acb73a6c4643f9537034639f2d5ddff5d55afac004686399b547"), looks := false }, kinds := [], alts := [], laidByText := true, laidKinds := [.data, .data, .data, .data, .data, .data, .data, .data, .data, .data, .data, .data, .data, .data, .data, .data, .data], laidTests := true, laidLooks := .later }
def NamesReadsCardSaid : Prop := Claim7.holds Tryd.pinned (.plain (OpenSpec.ofChange namesReadsSpec)) namesReadsCard

/-- THE TIED CARD OF 'joysticklaw11.NamesEnds'. -/
def namesEndsCard : Claim7 := { stood := { row := namesEndsRow, standIns := [], harness := (true, "0607279c4bd7acb73a6c4643f9537034639f2d5ddff5d55afac004686399b547"), looks := false }, kinds := [], alts := [], laidByText := true, laidKinds := [.data, .data, .data, .data, .data, .data, .data, .data, .data, .data, .data, .data, .data, .data, .data, .data, .data], laidTests := true, laidLooks := .later }
def NamesEndsCardSaid : Prop := Claim7.holds Tryd.pinned (.plain (OpenSpec.ofChange namesEndsSpec)) namesEndsCard

/-- THE TIED CARD OF 'joysticklaw11.NamesDiffer'. -/
def namesDifferCard : Claim7 := { stood := { row := namesDifferRow, standIns := [], harness := (true, "0607279c4bd7acb73a6c4643f9537034639f2d5ddff5d55afac004686399b547"), looks := false }, kinds := [], alts := [], laidByText := true, laidKinds := [.data, .data, .data, .data, .data, .data, .data, .data, .data, .data, .data, .data, .data, .data, .data, .data, .data], laidTests := true, laidLooks := .later }
def NamesDifferCardSaid : Prop := Claim7.holds Tryd.pinned (.plain (OpenSpec.ofChange namesDifferSpec)) namesDifferCard

/-- THE SECOND FORM's CARD OF 'joysticklaw11.NamesPages'. -/
def namesPagesUptoCard : Claim7 := { stood := { row := namesPagesUptoRow, standIns := [], harness := (true, "0607279c4bd7acb73a6c4643f9537034639f2d5ddff5d55afac004686399b547"), looks := false }, kinds := [], alts := [], laidByText := true, laidKinds := [.data, .data, .data, .data, .data, .data, .data, .data, .data, .data, .data, .data, .data, .data, .data, .data, .data], laidTests := true, laidLooks := .later }
def NamesPagesUptoCardSaid : Prop := Claim7.holds Tryd.pinned (.plain (OpenSpec.upto namesPagesSpec)) namesPagesUptoCard

/-- THE SECOND FORM's CARD OF 'joysticklaw11.NamesAll'. -/
def namesAllUptoCard : Claim7 := { stood := { row := namesAllUptoRow, standIns := [], harness := (true, "0607279c4bd7acb73a6c4643f9537034639f2d5ddff5d55afac004686399b547"), looks := false }, kinds := [], alts := [], laidByText := true, laidKinds := [.data, .data, .data, .data, .data, .data, .data, .data, .data, .data, .data, .data, .data, .data, .data, .data, .data], laidTests := true, laidLooks := .later }
def NamesAllUptoCardSaid : Prop := Claim7.holds Tryd.pinned (.plain (OpenSpec.upto namesAllSpec)) namesAllUptoCard

/-- THE SECOND FORM's CARD OF 'joysticklaw11.NamesReads'. -/
def namesReadsUptoCard : Claim7 := { stood := { row := namesReadsUptoRow, standIns := [], harness := (true, "0607279c4bd7acb73a6c4643f9537034639f2d5ddff5d55afac004686399b547"), looks := false }, kinds := [], alts := [], laidByText := true, laidKinds := [.data, .data, .data, .data, .data, .data, .data, .data, .data, .data, .data, .data, .data, .data, .data, .data, .data], laidTests := true, laidLooks := .later }
def NamesReadsUptoCardSaid : Prop := Claim7.holds Tryd.pinned (.plain (OpenSpec.upto namesReadsSpec)) namesReadsUptoCard

/-- THE SECOND FORM's CARD OF 'joysticklaw11.NamesEnds'. -/
def namesEndsUptoCard : Claim7 := { stood := { row := namesEndsUptoRow, standIns := [], harness := (true, "0607279c4bd7acb73a6c4643f9537034639f2d5ddff5d55afac004686399b547"), looks := false }, kinds := [], alts := [], laidByText := true, laidKinds := [.data, .data, .data, .data, .data, .data, .data, .data, .data, .data, .data, .data, .data, .data, .data, .data, .data], laidTests := true, laidLooks := .later }
def NamesEndsUptoCardSaid : Prop := Claim7.holds Tryd.pinned (.plain (OpenSpec.upto namesEndsSpec)) namesEndsUptoCard

/-- THE SECOND FORM's CARD OF 'joysticklaw11.NamesDiffer'. -/
def namesDifferUptoCard : Claim7 := { stood := { row := namesDifferUptoRow, standIns := [], harness := (true, "0607279c4bd7acb73a6c4643f9537034639f2d5ddff5d55afac004686399b547"), looks := false }, kinds := [], alts := [], laidByText := true, laidKinds := [.data, .data, .data, .data, .data, .data, .data, .data, .data, .data, .data, .data, .data, .data, .data, .data, .data], laidTests := true, laidLooks := .later }
def NamesDifferUptoCardSaid : Prop := Claim7.holds Tryd.pinned (.plain (OpenSpec.upto namesDifferSpec)) namesDifferUptoCard
end Rows
end Go.Proofs.YtaiceidmcelapaaDoor
