/-
  NARROWER THAN 'FOR EVERY INPUT', by the rows' own cells (each row's printed sentence says how): RegsTurn: laid · RegsBack: laid.
  DERIVED. THE GIVEN ROWS OF THIS SEAT. 2 by the template 'for every input the law returns true; each argument reads behind the call as it read before'; 0 by the template 'total and deterministic' (their statements: YthehpkhhoimecaaDoorTotals.lean).
  GIVEN WITH THE SEED: the statements are not yours to turn. If you find one false, say at which input.
  Laid BY PROGRAM, IN A SANDBOX (cutbox-rows.mjs): the forced cells as the released guide's own fill.sh prints them over the translation 5c437cd71a2bd743… (all of the seat's roots in one cut). By AI agents, Wed Nov 11 2026. No macro, syntax, notation, axiom, sorry.
-/
import Derived.Test.YthehpkhhoimecaaDoorChecked
import GoSem.Claim
import GoSem.ClaimJoined
import GoSem.ClaimMapViews
import Derived.JoinedTies
import Derived.KernelRfl
namespace Go.Proofs.YthehpkhhoimecaaDoor
/- THE CELL 'sum', in the pinned program and in every row, IS THE sha256 OF THE DUMP (.gsa) THAT YthehpkhhoimecaaDoorProg.lean LOADS. Nothing in Lean hashes anything: it is a label: what it is worth is what the hold of that sum in a sandbox is worth. -/
noncomputable def Tryd.pinned : Pinned := { name := "ythehpkhhoimecaadoor", sum := "5c437cd71a2bd743c22f345db564fa428e73b5d0255c587c2eb1cad700dcf9dd", checked := Tryd.checked }
namespace Rows
def none {H : Type} : Left H := { results := [], args := [] }

/- WHAT THE LISTED PACKAGE-LEVEL VARIABLES READ AS WHEN THE CALL BEGINS. Each datum BY PROGRAM (the guide's laid-datum.mjs) off the statement by which the dump's own 'gosem.cut.vars' lays the variable. In a bare row this is a premise. The card (YthehpkhhoimecaaDoorCards.lean) ties it to the program's text. -/
def laid_joystick_regs_asked {H : Type} : DataW H := .agg [.lit (.int .u8 64), .lit (.int .u8 1), .lit (.int .u8 4), .lit (.int .u8 128)]

/-- 'joysticklaw10.RegsTurn': WHATEVER THE INPUT: true; the input reads as it did. -/
def regsTurnSpec : ChangeSpec := { name := "regsTurn", fn := fun _ => fun
  | [d1, d2, d3] => { results := [.lit (.bool true)], args := [d1, d2, d3] }
  | _ => none }
def regsTurnRow : OpenClaim := { program := "ythehpkhhoimecaadoor", sum := "5c437cd71a2bd743c22f345db564fa428e73b5d0255c587c2eb1cad700dcf9dd", func := "joystick/joysticklaw10.RegsTurn", spec := "regsTurn", recurses := true, named := ["joystick/regs.asked"], apart := false, laid := [("joystick/regs.asked", laid_joystick_regs_asked)] }
def RegsTurnSaid : Prop := regsTurnRow.holds Tryd.pinned (OpenSpec.ofChange regsTurnSpec)

/-- ITS FALSE NEIGHBOUR: 'it returns false'. Refute it at one input. -/
def regsTurnWrong : ChangeSpec := { name := "regsTurn", fn := fun _ => fun
  | [d1, d2, d3] => { results := [.lit (.bool false)], args := [d1, d2, d3] }
  | _ => none }
def RegsTurnWrongFalsely : Prop := regsTurnRow.holds Tryd.pinned (OpenSpec.ofChange regsTurnWrong)

/-- 'joysticklaw10.RegsBack': WHATEVER THE INPUT: true; the input reads as it did. -/
def regsBackSpec : ChangeSpec := { name := "regsBack", fn := fun _ => fun
  | [d1, d2, d3] => { results := [.lit (.bool true)], args := [d1, d2, d3] }
  | _ => none }
def regsBackRow : OpenClaim := { program := "ythehpkhhoimecaadoor", sum := "5c437cd71a2bd743c22f345db564fa428e73b5d0255c587c2eb1cad700dcf9dd", func := "joystick/joysticklaw10.RegsBack", spec := "regsBack", named := ["joystick/regs.asked"], apart := false, laid := [("joystick/regs.asked", laid_joystick_regs_asked)] }
def RegsBackSaid : Prop := regsBackRow.holds Tryd.pinned (OpenSpec.ofChange regsBackSpec)

/-- ITS FALSE NEIGHBOUR: 'it returns false'. Refute it at one input. -/
def regsBackWrong : ChangeSpec := { name := "regsBack", fn := fun _ => fun
  | [d1, d2, d3] => { results := [.lit (.bool false)], args := [d1, d2, d3] }
  | _ => none }
def RegsBackWrongFalsely : Prop := regsBackRow.holds Tryd.pinned (OpenSpec.ofChange regsBackWrong)

/- THE SECOND FORM. 'bulk': how many values and letters a reading holds, each counted each time it is reached (what is shared counts as often as it is met; a slice's spare places count too). A statement '..UptoSaid' is the law's where the arguments, and the package variables that the reading takes, are together of bulk at most 1048576: NARROWER than '..Said'. Prove '..Said' where nothing that the law and all that it calls make is longer than what came in: it says more and counts as full. Else prove '..UptoSaid'. A law counts once. -/
mutual
def uptoBulk {H : Type} : DataW H → Nat
  | .lit (.string bytes) => bytes.length + 1
  | .lit _ => 1
  | .nil => 1
  | .ptr d => uptoBulk d + 1
  | .slice elems spare => uptoBulkAll elems + uptoBulkAll spare + 1
  | .agg parts => uptoBulkAll parts + 1
  | .iface _ d => uptoBulk d + 1
  | .map entries => uptoBulkEntries entries + 1
  | .held _ => 1
def uptoBulkAll {H : Type} : List (DataW H) → Nat
  | [] => 0
  | d :: r => uptoBulk d + uptoBulkAll r
def uptoBulkEntries {H : Type} : List (Lit × DataW H) → Nat
  | [] => 0
  | x :: r => uptoBulkEntry x + uptoBulkEntries r
def uptoBulkEntry {H : Type} : Lit × DataW H → Nat
  | (.string bytes, d) => bytes.length + uptoBulk d + 1
  | (_, d) => uptoBulk d + 1
 end
def uptoSmall : (H : Type) → List (DataW H) → Bool := fun _ ds => decide (uptoBulkAll ds ≤ 1048576)
def OpenSpec.upto (s : _root_.Go.ChangeSpec) : _root_.Go.OpenSpec := { _root_.Go.OpenSpec.ofChange s with cond := some uptoSmall }

/-- 'joysticklaw10.RegsTurn', WHERE WHAT IT READS IS OF BULK AT MOST 1048576: true; the input reads as it did. -/
def regsTurnUptoRow : OpenClaim := { program := "ythehpkhhoimecaadoor", sum := "5c437cd71a2bd743c22f345db564fa428e73b5d0255c587c2eb1cad700dcf9dd", func := "joystick/joysticklaw10.RegsTurn", spec := "regsTurn", recurses := true, named := ["joystick/regs.asked"], apart := false, laid := [("joystick/regs.asked", laid_joystick_regs_asked)], narrowed := true }
def RegsTurnUptoSaid : Prop := regsTurnUptoRow.holds Tryd.pinned (OpenSpec.upto regsTurnSpec)

/-- 'joysticklaw10.RegsBack', WHERE WHAT IT READS IS OF BULK AT MOST 1048576: true; the input reads as it did. -/
def regsBackUptoRow : OpenClaim := { program := "ythehpkhhoimecaadoor", sum := "5c437cd71a2bd743c22f345db564fa428e73b5d0255c587c2eb1cad700dcf9dd", func := "joystick/joysticklaw10.RegsBack", spec := "regsBack", named := ["joystick/regs.asked"], apart := false, laid := [("joystick/regs.asked", laid_joystick_regs_asked)], narrowed := true }
def RegsBackUptoSaid : Prop := regsBackUptoRow.holds Tryd.pinned (OpenSpec.upto regsBackSpec)

end Rows
end Go.Proofs.YthehpkhhoimecaaDoor
