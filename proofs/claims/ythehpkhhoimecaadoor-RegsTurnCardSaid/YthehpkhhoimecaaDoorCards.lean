/-
  DERIVED. GIVEN WITH THE SEED: THE CARDS: each row of YthehpkhhoimecaaDoorRows.lean that lists a variable, with what it lists TIED to the program's text (the seventh form; the later family's looks); each row that meets fmt, with fmt's text TOLD by the authors' own Lean function (tested against real Go, not proved from fmt's source: count such statements apart). THE CARD IS WHAT COUNTS. Prove the row's statement (the work); the ties are given (YthehpkhhoimecaaDoorTie.lean); close each card by the builder's one call (the guide's Derived/Test/ToyasCard.lean, 'card_holds'). Laid BY PROGRAM, IN A SANDBOX (cutbox-door.mjs). By AI agents, Wed Nov 11 2026. No macro, syntax, notation, axiom, sorry.
-/
import Derived.Test.YthehpkhhoimecaaDoorRows
import GoSem.ClaimSeven
namespace Go.Proofs.YthehpkhhoimecaaDoor
namespace Rows

/-- THE TIED CARD OF 'joysticklaw10.RegsTurn'. -/
def regsTurnCard : Claim7 := { stood := { row := regsTurnRow, standIns := [], harness := (true, "85ce3c78b7ae035029b2408623211374ad7885c74de3533229b44dfc8e7d0cfd"), looks := false }, kinds := [], alts := [], laidByText := true, laidKinds := [.data], laidTests := true, laidLooks := .later }
def RegsTurnCardSaid : Prop := Claim7.holds Tryd.pinned (.plain (OpenSpec.ofChange regsTurnSpec)) regsTurnCard

/-- THE TIED CARD OF 'joysticklaw10.RegsBack'. -/
def regsBackCard : Claim7 := { stood := { row := regsBackRow, standIns := [], harness := (true, "85ce3c78b7ae035029b2408623211374ad7885c74de3533229b44dfc8e7d0cfd"), looks := false }, kinds := [], alts := [], laidByText := true, laidKinds := [.data], laidTests := true, laidLooks := .later }
def RegsBackCardSaid : Prop := Claim7.holds Tryd.pinned (.plain (OpenSpec.ofChange regsBackSpec)) regsBackCard

/-- THE SECOND FORM's CARD OF 'joysticklaw10.RegsTurn'. -/
def regsTurnUptoCard : Claim7 := { stood := { row := regsTurnUptoRow, standIns := [], harness := (true, "85ce3c78b7ae035029b2408623211374ad7885c74de3533229b44dfc8e7d0cfd"), looks := false }, kinds := [], alts := [], laidByText := true, laidKinds := [.data], laidTests := true, laidLooks := .later }
def RegsTurnUptoCardSaid : Prop := Claim7.holds Tryd.pinned (.plain (OpenSpec.upto regsTurnSpec)) regsTurnUptoCard

/-- THE SECOND FORM's CARD OF 'joysticklaw10.RegsBack'. -/
def regsBackUptoCard : Claim7 := { stood := { row := regsBackUptoRow, standIns := [], harness := (true, "85ce3c78b7ae035029b2408623211374ad7885c74de3533229b44dfc8e7d0cfd"), looks := false }, kinds := [], alts := [], laidByText := true, laidKinds := [.data], laidTests := true, laidLooks := .later }
def RegsBackUptoCardSaid : Prop := Claim7.holds Tryd.pinned (.plain (OpenSpec.upto regsBackSpec)) regsBackUptoCard
end Rows
end Go.Proofs.YthehpkhhoimecaaDoor
