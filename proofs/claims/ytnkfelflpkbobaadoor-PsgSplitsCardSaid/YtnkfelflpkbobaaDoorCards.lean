/-
  DERIVED. GIVEN WITH THE SEED: THE CARDS: each row of YtnkfelflpkbobaaDoorRows.lean that lists a variable, with what it lists TIED to the program's text (the seventh form; the later family's looks); each row that meets fmt, with fmt's text TOLD by the authors' own Lean function (tested against real Go, not proved from fmt's source: count such statements apart). THE CARD IS WHAT COUNTS. Prove the row's statement (the work); the ties are given (YtnkfelflpkbobaaDoorTie.lean); close each card by the builder's one call (the guide's Derived/Test/ToyasCard.lean, 'card_holds'). Laid BY PROGRAM, IN A SANDBOX (cutbox-door.mjs). By AI agents, Wed Nov 11 2026. No macro, syntax, notation, axiom, sorry.
-/
import Derived.Test.YtnkfelflpkbobaaDoorRows
import GoSem.ClaimSeven
namespace Go.Proofs.YtnkfelflpkbobaaDoor
namespace Rows

/-- THE TIED CARD OF 'joysticklaw05.PsgNames'. -/
def psgNamesCard : Claim7 := { stood := { row := psgNamesRow, standIns := [], harness := (true, "87f9b7561125c8a4dcc32eaffa7f46928d59a85d8fd5847aae273573dcf29e11"), looks := false }, kinds := [], alts := [], laidByText := true, laidKinds := [.data], laidTests := true, laidLooks := .later }
def PsgNamesCardSaid : Prop := Claim7.holds Tryd.pinned (.plain (OpenSpec.ofChange psgNamesSpec)) psgNamesCard

/-- THE TIED CARD OF 'joysticklaw05.PsgRuns'. -/
def psgRunsCard : Claim7 := { stood := { row := psgRunsRow, standIns := [], harness := (true, "87f9b7561125c8a4dcc32eaffa7f46928d59a85d8fd5847aae273573dcf29e11"), looks := false }, kinds := [], alts := [], laidByText := true, laidKinds := [.data], laidTests := true, laidLooks := .later }
def PsgRunsCardSaid : Prop := Claim7.holds Tryd.pinned (.plain (OpenSpec.ofChange psgRunsSpec)) psgRunsCard

/-- THE TIED CARD OF 'joysticklaw05.PsgSplits'. -/
def psgSplitsCard : Claim7 := { stood := { row := psgSplitsRow, standIns := [], harness := (true, "87f9b7561125c8a4dcc32eaffa7f46928d59a85d8fd5847aae273573dcf29e11"), looks := false }, kinds := [], alts := [], laidByText := true, laidKinds := [.data], laidTests := true, laidLooks := .later }
def PsgSplitsCardSaid : Prop := Claim7.holds Tryd.pinned (.plain (OpenSpec.ofChange psgSplitsSpec)) psgSplitsCard

/-- THE TIED CARD OF 'joysticklaw05.PsgWrites'. -/
def psgWritesCard : Claim7 := { stood := { row := psgWritesRow, standIns := [], harness := (true, "87f9b7561125c8a4dcc32eaffa7f46928d59a85d8fd5847aae273573dcf29e11"), looks := false }, kinds := [], alts := [], laidByText := true, laidKinds := [.data], laidTests := true, laidLooks := .later }
def PsgWritesCardSaid : Prop := Claim7.holds Tryd.pinned (.plain (OpenSpec.ofChange psgWritesSpec)) psgWritesCard

/-- THE TIED CARD OF 'joysticklaw05.PsgVoices'. -/
def psgVoicesCard : Claim7 := { stood := { row := psgVoicesRow, standIns := [], harness := (true, "87f9b7561125c8a4dcc32eaffa7f46928d59a85d8fd5847aae273573dcf29e11"), looks := false }, kinds := [], alts := [], laidByText := true, laidKinds := [.data], laidTests := true, laidLooks := .later }
def PsgVoicesCardSaid : Prop := Claim7.holds Tryd.pinned (.plain (OpenSpec.ofChange psgVoicesSpec)) psgVoicesCard

/-- THE SECOND FORM's CARD OF 'joysticklaw05.PsgNames'. -/
def psgNamesUptoCard : Claim7 := { stood := { row := psgNamesUptoRow, standIns := [], harness := (true, "87f9b7561125c8a4dcc32eaffa7f46928d59a85d8fd5847aae273573dcf29e11"), looks := false }, kinds := [], alts := [], laidByText := true, laidKinds := [.data], laidTests := true, laidLooks := .later }
def PsgNamesUptoCardSaid : Prop := Claim7.holds Tryd.pinned (.plain (OpenSpec.upto psgNamesSpec)) psgNamesUptoCard

/-- THE SECOND FORM's CARD OF 'joysticklaw05.PsgRuns'. -/
def psgRunsUptoCard : Claim7 := { stood := { row := psgRunsUptoRow, standIns := [], harness := (true, "87f9b7561125c8a4dcc32eaffa7f46928d59a85d8fd5847aae273573dcf29e11"), looks := false }, kinds := [], alts := [], laidByText := true, laidKinds := [.data], laidTests := true, laidLooks := .later }
def PsgRunsUptoCardSaid : Prop := Claim7.holds Tryd.pinned (.plain (OpenSpec.upto psgRunsSpec)) psgRunsUptoCard

/-- THE SECOND FORM's CARD OF 'joysticklaw05.PsgSplits'. -/
def psgSplitsUptoCard : Claim7 := { stood := { row := psgSplitsUptoRow, standIns := [], harness := (true, "87f9b7561125c8a4dcc32eaffa7f46928d59a85d8fd5847aae273573dcf29e11"), looks := false }, kinds := [], alts := [], laidByText := true, laidKinds := [.data], laidTests := true, laidLooks := .later }
def PsgSplitsUptoCardSaid : Prop := Claim7.holds Tryd.pinned (.plain (OpenSpec.upto psgSplitsSpec)) psgSplitsUptoCard

/-- THE SECOND FORM's CARD OF 'joysticklaw05.PsgWrites'. -/
def psgWritesUptoCard : Claim7 := { stood := { row := psgWritesUptoRow, standIns := [], harness := (true, "87f9b7561125c8a4dcc32eaffa7f46928d59a85d8fd5847aae273573dcf29e11"), looks := false }, kinds := [], alts := [], laidByText := true, laidKinds := [.data], laidTests := true, laidLooks := .later }
def PsgWritesUptoCardSaid : Prop := Claim7.holds Tryd.pinned (.plain (OpenSpec.upto psgWritesSpec)) psgWritesUptoCard

/-- THE SECOND FORM's CARD OF 'joysticklaw05.PsgVoices'. -/
def psgVoicesUptoCard : Claim7 := { stood := { row := psgVoicesUptoRow, standIns := [], harness := (true, "87f9b7561125c8a4dcc32eaffa7f46928d59a85d8fd5847aae273573dcf29e11"), looks := false }, kinds := [], alts := [], laidByText := true, laidKinds := [.data], laidTests := true, laidLooks := .later }
def PsgVoicesUptoCardSaid : Prop := Claim7.holds Tryd.pinned (.plain (OpenSpec.upto psgVoicesSpec)) psgVoicesUptoCard
end Rows
end Go.Proofs.YtnkfelflpkbobaaDoor
