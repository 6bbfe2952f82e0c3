/-
  NARROWER THAN 'FOR EVERY INPUT', by the rows' own cells (each row's printed sentence says how): PsgNames: laid · PsgRuns: laid · PsgSplits: laid · PsgWrites: laid · PsgVoices: laid.
  DERIVED. THE GIVEN ROWS OF THIS SEAT. 5 by the template 'for every input the law returns true; each argument reads behind the call as it read before'; 0 by the template 'total and deterministic' (their statements: YtnkfelflpkbobaaDoorTotals.lean).
  GIVEN WITH THE SEED: the statements are not yours to turn. If you find one false, say at which input.
  Laid BY PROGRAM, IN A SANDBOX (cutbox-rows.mjs): the forced cells as the released guide's own fill.sh prints them over the translation 4a20d3d414a7a097… (all of the seat's roots in one cut). By AI agents, Wed Nov 11 2026. No macro, syntax, notation, axiom, sorry.
-/
import Derived.Test.YtnkfelflpkbobaaDoorChecked
import GoSem.Claim
import GoSem.ClaimJoined
import GoSem.ClaimMapViews
import Derived.JoinedTies
import Derived.KernelRfl
namespace Go.Proofs.YtnkfelflpkbobaaDoor
/- THE CELL 'sum', in the pinned program and in every row, IS THE sha256 OF THE DUMP (.gsa) THAT YtnkfelflpkbobaaDoorProg.lean LOADS. Nothing in Lean hashes anything: it is a label: what it is worth is what the hold of that sum in a sandbox is worth. -/
noncomputable def Tryd.pinned : Pinned := { name := "ytnkfelflpkbobaadoor", sum := "4a20d3d414a7a0970289d8ab42712f4edf3d3d5c6943a3c358d79e18bedf4a58", checked := Tryd.checked }
namespace Rows
def none {H : Type} : Left H := { results := [], args := [] }

/- WHAT THE LISTED PACKAGE-LEVEL VARIABLES READ AS WHEN THE CALL BEGINS. Each datum BY PROGRAM (the guide's laid-datum.mjs) off the statement by which the dump's own 'gosem.cut.vars' lays the variable. In a bare row this is a premise. The card (YtnkfelflpkbobaaDoorCards.lean) ties it to the program's text. -/
def laid_joystick_psg_volumes {H : Type} : DataW H := .agg [.lit (.int .i64 8191), .lit (.int .i64 6507), .lit (.int .i64 5168), .lit (.int .i64 4105), .lit (.int .i64 3261), .lit (.int .i64 2590), .lit (.int .i64 2057), .lit (.int .i64 1642), .lit (.int .i64 1298), .lit (.int .i64 1031), .lit (.int .i64 819), .lit (.int .i64 650), .lit (.int .i64 516), .lit (.int .i64 410), .lit (.int .i64 326), .lit (.int .i64 0)]

/-- 'joysticklaw05.PsgNames': WHATEVER THE INPUT: true; the input reads as it did. -/
def psgNamesSpec : ChangeSpec := { name := "psgNames", fn := fun _ => fun
  | [] => { results := [.lit (.bool true)], args := [] }
  | _ => none }
def psgNamesRow : OpenClaim := { program := "ytnkfelflpkbobaadoor", sum := "4a20d3d414a7a0970289d8ab42712f4edf3d3d5c6943a3c358d79e18bedf4a58", func := "joystick/joysticklaw05.PsgNames", spec := "psgNames", named := ["joystick/psg.volumes"], apart := false, laid := [("joystick/psg.volumes", laid_joystick_psg_volumes)] }
def PsgNamesSaid : Prop := psgNamesRow.holds Tryd.pinned (OpenSpec.ofChange psgNamesSpec)

/-- ITS FALSE NEIGHBOUR: 'it returns false'. Refute it at one input. -/
def psgNamesWrong : ChangeSpec := { name := "psgNames", fn := fun _ => fun
  | [] => { results := [.lit (.bool false)], args := [] }
  | _ => none }
def PsgNamesWrongFalsely : Prop := psgNamesRow.holds Tryd.pinned (OpenSpec.ofChange psgNamesWrong)

/-- 'joysticklaw05.PsgRuns': WHATEVER THE INPUT: true; the input reads as it did. -/
def psgRunsSpec : ChangeSpec := { name := "psgRuns", fn := fun _ => fun
  | [d1, d2] => { results := [.lit (.bool true)], args := [d1, d2] }
  | _ => none }
def psgRunsRow : OpenClaim := { program := "ytnkfelflpkbobaadoor", sum := "4a20d3d414a7a0970289d8ab42712f4edf3d3d5c6943a3c358d79e18bedf4a58", func := "joystick/joysticklaw05.PsgRuns", spec := "psgRuns", named := ["joystick/psg.volumes"], apart := false, laid := [("joystick/psg.volumes", laid_joystick_psg_volumes)] }
def PsgRunsSaid : Prop := psgRunsRow.holds Tryd.pinned (OpenSpec.ofChange psgRunsSpec)

/-- ITS FALSE NEIGHBOUR: 'it returns false'. Refute it at one input. -/
def psgRunsWrong : ChangeSpec := { name := "psgRuns", fn := fun _ => fun
  | [d1, d2] => { results := [.lit (.bool false)], args := [d1, d2] }
  | _ => none }
def PsgRunsWrongFalsely : Prop := psgRunsRow.holds Tryd.pinned (OpenSpec.ofChange psgRunsWrong)

/-- 'joysticklaw05.PsgSplits': WHATEVER THE INPUT: true; the input reads as it did. -/
def psgSplitsSpec : ChangeSpec := { name := "psgSplits", fn := fun _ => fun
  | [d1, d2] => { results := [.lit (.bool true)], args := [d1, d2] }
  | _ => none }
def psgSplitsRow : OpenClaim := { program := "ytnkfelflpkbobaadoor", sum := "4a20d3d414a7a0970289d8ab42712f4edf3d3d5c6943a3c358d79e18bedf4a58", func := "joystick/joysticklaw05.PsgSplits", spec := "psgSplits", named := ["joystick/psg.volumes"], apart := false, laid := [("joystick/psg.volumes", laid_joystick_psg_volumes)] }
def PsgSplitsSaid : Prop := psgSplitsRow.holds Tryd.pinned (OpenSpec.ofChange psgSplitsSpec)

/-- ITS FALSE NEIGHBOUR: 'it returns false'. Refute it at one input. -/
def psgSplitsWrong : ChangeSpec := { name := "psgSplits", fn := fun _ => fun
  | [d1, d2] => { results := [.lit (.bool false)], args := [d1, d2] }
  | _ => none }
def PsgSplitsWrongFalsely : Prop := psgSplitsRow.holds Tryd.pinned (OpenSpec.ofChange psgSplitsWrong)

/-- 'joysticklaw05.PsgWrites': WHATEVER THE INPUT: true; the input reads as it did. -/
def psgWritesSpec : ChangeSpec := { name := "psgWrites", fn := fun _ => fun
  | [d1, d2] => { results := [.lit (.bool true)], args := [d1, d2] }
  | _ => none }
def psgWritesRow : OpenClaim := { program := "ytnkfelflpkbobaadoor", sum := "4a20d3d414a7a0970289d8ab42712f4edf3d3d5c6943a3c358d79e18bedf4a58", func := "joystick/joysticklaw05.PsgWrites", spec := "psgWrites", named := ["joystick/psg.volumes"], apart := false, laid := [("joystick/psg.volumes", laid_joystick_psg_volumes)] }
def PsgWritesSaid : Prop := psgWritesRow.holds Tryd.pinned (OpenSpec.ofChange psgWritesSpec)

/-- ITS FALSE NEIGHBOUR: 'it returns false'. Refute it at one input. -/
def psgWritesWrong : ChangeSpec := { name := "psgWrites", fn := fun _ => fun
  | [d1, d2] => { results := [.lit (.bool false)], args := [d1, d2] }
  | _ => none }
def PsgWritesWrongFalsely : Prop := psgWritesRow.holds Tryd.pinned (OpenSpec.ofChange psgWritesWrong)

/-- 'joysticklaw05.PsgVoices': WHATEVER THE INPUT: true; the input reads as it did. -/
def psgVoicesSpec : ChangeSpec := { name := "psgVoices", fn := fun _ => fun
  | [d] => { results := [.lit (.bool true)], args := [d] }
  | _ => none }
def psgVoicesRow : OpenClaim := { program := "ytnkfelflpkbobaadoor", sum := "4a20d3d414a7a0970289d8ab42712f4edf3d3d5c6943a3c358d79e18bedf4a58", func := "joystick/joysticklaw05.PsgVoices", spec := "psgVoices", named := ["joystick/psg.volumes"], apart := false, laid := [("joystick/psg.volumes", laid_joystick_psg_volumes)] }
def PsgVoicesSaid : Prop := psgVoicesRow.holds Tryd.pinned (OpenSpec.ofChange psgVoicesSpec)

/-- ITS FALSE NEIGHBOUR: 'it returns false'. Refute it at one input. -/
def psgVoicesWrong : ChangeSpec := { name := "psgVoices", fn := fun _ => fun
  | [d] => { results := [.lit (.bool false)], args := [d] }
  | _ => none }
def PsgVoicesWrongFalsely : Prop := psgVoicesRow.holds Tryd.pinned (OpenSpec.ofChange psgVoicesWrong)

/- THE SECOND FORM. 'bulk': how many values and letters a reading holds, each counted each time it is reached (what is shared counts as often as it is met; a slice's spare places count too). A statement '..UptoSaid' is the law's where the arguments, and the package variables that the reading takes, are together of bulk at most 1048576: NARROWER than '..Said'. Prove '..Said' where nothing that the law and all that it calls make is longer than what came in: it says more and counts as full. Else prove '..UptoSaid'. A law counts once. -/
mutual
def uptoBulk {H : Type} : DataW H → Nat
  | .lit (.string bytes) => bytes.length + 1
  | .lit _ => 1
  | .nil => 1
  | .ptr d => uptoBulk d + 1
  | .slice elems spare => uptoBulkAll elems + uptoBulkAll spare + 1
  | .agg parts => uptoBulkAll parts + 1
  | .iface _ d => uptoBulk d + 1
  | .map entries => uptoBulkEntries entries + 1
  | .held _ => 1
def uptoBulkAll {H : Type} : List (DataW H) → Nat
  | [] => 0
  | d :: r => uptoBulk d + uptoBulkAll r
def uptoBulkEntries {H : Type} : List (Lit × DataW H) → Nat
  | [] => 0
  | x :: r => uptoBulkEntry x + uptoBulkEntries r
def uptoBulkEntry {H : Type} : Lit × DataW H → Nat
  | (.string bytes, d) => bytes.length + uptoBulk d + 1
  | (_, d) => uptoBulk d + 1
 end
def uptoSmall : (H : Type) → List (DataW H) → Bool := fun _ ds => decide (uptoBulkAll ds ≤ 1048576)
def OpenSpec.upto (s : _root_.Go.ChangeSpec) : _root_.Go.OpenSpec := { _root_.Go.OpenSpec.ofChange s with cond := some uptoSmall }

/-- 'joysticklaw05.PsgNames', WHERE WHAT IT READS IS OF BULK AT MOST 1048576: true; the input reads as it did. -/
def psgNamesUptoRow : OpenClaim := { program := "ytnkfelflpkbobaadoor", sum := "4a20d3d414a7a0970289d8ab42712f4edf3d3d5c6943a3c358d79e18bedf4a58", func := "joystick/joysticklaw05.PsgNames", spec := "psgNames", named := ["joystick/psg.volumes"], apart := false, laid := [("joystick/psg.volumes", laid_joystick_psg_volumes)], narrowed := true }
def PsgNamesUptoSaid : Prop := psgNamesUptoRow.holds Tryd.pinned (OpenSpec.upto psgNamesSpec)

/-- 'joysticklaw05.PsgRuns', WHERE WHAT IT READS IS OF BULK AT MOST 1048576: true; the input reads as it did. -/
def psgRunsUptoRow : OpenClaim := { program := "ytnkfelflpkbobaadoor", sum := "4a20d3d414a7a0970289d8ab42712f4edf3d3d5c6943a3c358d79e18bedf4a58", func := "joystick/joysticklaw05.PsgRuns", spec := "psgRuns", named := ["joystick/psg.volumes"], apart := false, laid := [("joystick/psg.volumes", laid_joystick_psg_volumes)], narrowed := true }
def PsgRunsUptoSaid : Prop := psgRunsUptoRow.holds Tryd.pinned (OpenSpec.upto psgRunsSpec)

/-- 'joysticklaw05.PsgSplits', WHERE WHAT IT READS IS OF BULK AT MOST 1048576: true; the input reads as it did. -/
def psgSplitsUptoRow : OpenClaim := { program := "ytnkfelflpkbobaadoor", sum := "4a20d3d414a7a0970289d8ab42712f4edf3d3d5c6943a3c358d79e18bedf4a58", func := "joystick/joysticklaw05.PsgSplits", spec := "psgSplits", named := ["joystick/psg.volumes"], apart := false, laid := [("joystick/psg.volumes", laid_joystick_psg_volumes)], narrowed := true }
def PsgSplitsUptoSaid : Prop := psgSplitsUptoRow.holds Tryd.pinned (OpenSpec.upto psgSplitsSpec)

/-- 'joysticklaw05.PsgWrites', WHERE WHAT IT READS IS OF BULK AT MOST 1048576: true; the input reads as it did. -/
def psgWritesUptoRow : OpenClaim := { program := "ytnkfelflpkbobaadoor", sum := "4a20d3d414a7a0970289d8ab42712f4edf3d3d5c6943a3c358d79e18bedf4a58", func := "joystick/joysticklaw05.PsgWrites", spec := "psgWrites", named := ["joystick/psg.volumes"], apart := false, laid := [("joystick/psg.volumes", laid_joystick_psg_volumes)], narrowed := true }
def PsgWritesUptoSaid : Prop := psgWritesUptoRow.holds Tryd.pinned (OpenSpec.upto psgWritesSpec)

/-- 'joysticklaw05.PsgVoices', WHERE WHAT IT READS IS OF BULK AT MOST 1048576: true; the input reads as it did. -/
def psgVoicesUptoRow : OpenClaim := { program := "ytnkfelflpkbobaadoor", sum := "4a20d3d414a7a0970289d8ab42712f4edf3d3d5c6943a3c358d79e18bedf4a58", func := "joystick/joysticklaw05.PsgVoices", spec := "psgVoices", named := ["joystick/psg.volumes"], apart := false, laid := [("joystick/psg.volumes", laid_joystick_psg_volumes)], narrowed := true }
def PsgVoicesUptoSaid : Prop := psgVoicesUptoRow.holds Tryd.pinned (OpenSpec.upto psgVoicesSpec)

end Rows
end Go.Proofs.YtnkfelflpkbobaaDoor
