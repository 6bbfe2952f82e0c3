/-
  NARROWER THAN 'FOR EVERY INPUT', by the rows' own cells (each row's printed sentence says how): CpuNames: laid · CpuSteps: laid · CpuRuns: laid · CpuInterrupts: laid · CpuMoves: laid · CpuBack: laid · CpuCopies: laid · CpuPrefixes: laid · CpuCalls: laid · CpuCounts: laid.
  DERIVED. THE GIVEN ROWS OF THIS SEAT. 10 by the template 'for every input the law returns true; each argument reads behind the call as it read before'; 0 by the template 'total and deterministic' (their statements: YtljjgakfnajifaaGreatDoorTotals.lean).
  GIVEN WITH THE SEED: the statements are not yours to turn. If you find one false, say at which input.
  Laid BY PROGRAM, IN A SANDBOX (cutbox-rows.mjs): the forced cells as the released guide's own fill.sh prints them over the translation 241ab9ddd087ff89… (all of the seat's roots in one cut). By AI agents, Wed Nov 11 2026. No macro, syntax, notation, axiom, sorry.
-/
import Derived.Test.YtljjgakfnajifaaGreatDoorChecked
import GoSem.Claim
import GoSem.ClaimJoined
import GoSem.ClaimMapViews
import Derived.JoinedTies
import Derived.KernelRfl
namespace Go.Proofs.YtljjgakfnajifaaGreatDoor
/- THE CELL 'sum', in the pinned program and in every row, IS THE sha256 OF THE DUMP (.gsa) THAT YtljjgakfnajifaaGreatDoorProg.lean LOADS. Nothing in Lean hashes anything: it is a label: what it is worth is what the hold of that sum in a sandbox is worth. -/
noncomputable def Tryz.pinned : Pinned := { name := "ytljjgakfnajifaagreatdoor", sum := "241ab9ddd087ff89d00260bcc00dae9992d000765141bc81bdaf67014eef7391", checked := Tryz.checked }
namespace Rows
def none {H : Type} : Left H := { results := [], args := [] }

/- WHAT THE LISTED PACKAGE-LEVEL VARIABLES READ AS WHEN THE CALL BEGINS. Each datum BY PROGRAM (the guide's laid-datum.mjs) off the statement by which the dump's own 'gosem.cut.vars' lays the variable. In a bare row this is a premise. The card (YtljjgakfnajifaaGreatDoorCards.lean) ties it to the program's text. -/
def laid_joystick_regs_asked {H : Type} : DataW H := .agg [.lit (.int .u8 64), .lit (.int .u8 1), .lit (.int .u8 4), .lit (.int .u8 128)]
def laid_joystick_cpu_modes {H : Type} : DataW H := .agg [.lit (.int .u8 0), .lit (.int .u8 0), .lit (.int .u8 1), .lit (.int .u8 2)]

/-- 'joysticklaw12.CpuNames': WHATEVER THE INPUT: true; the input reads as it did. -/
def cpuNamesSpec : ChangeSpec := { name := "cpuNames", fn := fun _ => fun
  | [] => { results := [.lit (.bool true)], args := [] }
  | _ => none }
def cpuNamesRow : OpenClaim := { program := "ytljjgakfnajifaagreatdoor", sum := "241ab9ddd087ff89d00260bcc00dae9992d000765141bc81bdaf67014eef7391", func := "joystick/joysticklaw12.CpuNames", spec := "cpuNames", unfollowed := true, recurses := true, named := ["joystick/cpu.modes", "joystick/regs.asked"], apart := false, laid := [("joystick/regs.asked", laid_joystick_regs_asked), ("joystick/cpu.modes", laid_joystick_cpu_modes)] }
def CpuNamesSaid : Prop := cpuNamesRow.holds Tryz.pinned (OpenSpec.ofChange cpuNamesSpec)

/-- ITS FALSE NEIGHBOUR: 'it returns false'. Refute it at one input. -/
def cpuNamesWrong : ChangeSpec := { name := "cpuNames", fn := fun _ => fun
  | [] => { results := [.lit (.bool false)], args := [] }
  | _ => none }
def CpuNamesWrongFalsely : Prop := cpuNamesRow.holds Tryz.pinned (OpenSpec.ofChange cpuNamesWrong)

/-- 'joysticklaw12.CpuSteps': WHATEVER THE INPUT: true; the input reads as it did. -/
def cpuStepsSpec : ChangeSpec := { name := "cpuSteps", fn := fun _ => fun
  | [d1, d2, d3] => { results := [.lit (.bool true)], args := [d1, d2, d3] }
  | _ => none }
def cpuStepsRow : OpenClaim := { program := "ytljjgakfnajifaagreatdoor", sum := "241ab9ddd087ff89d00260bcc00dae9992d000765141bc81bdaf67014eef7391", func := "joystick/joysticklaw12.CpuSteps", spec := "cpuSteps", unfollowed := true, recurses := true, named := ["joystick/cpu.modes", "joystick/regs.asked"], apart := false, laid := [("joystick/regs.asked", laid_joystick_regs_asked), ("joystick/cpu.modes", laid_joystick_cpu_modes)] }
def CpuStepsSaid : Prop := cpuStepsRow.holds Tryz.pinned (OpenSpec.ofChange cpuStepsSpec)

/-- ITS FALSE NEIGHBOUR: 'it returns false'. Refute it at one input. -/
def cpuStepsWrong : ChangeSpec := { name := "cpuSteps", fn := fun _ => fun
  | [d1, d2, d3] => { results := [.lit (.bool false)], args := [d1, d2, d3] }
  | _ => none }
def CpuStepsWrongFalsely : Prop := cpuStepsRow.holds Tryz.pinned (OpenSpec.ofChange cpuStepsWrong)

/-- 'joysticklaw12.CpuRuns': WHATEVER THE INPUT: true; the input reads as it did. -/
def cpuRunsSpec : ChangeSpec := { name := "cpuRuns", fn := fun _ => fun
  | [d1, d2, d3] => { results := [.lit (.bool true)], args := [d1, d2, d3] }
  | _ => none }
def cpuRunsRow : OpenClaim := { program := "ytljjgakfnajifaagreatdoor", sum := "241ab9ddd087ff89d00260bcc00dae9992d000765141bc81bdaf67014eef7391", func := "joystick/joysticklaw12.CpuRuns", spec := "cpuRuns", unfollowed := true, recurses := true, named := ["joystick/cpu.modes", "joystick/regs.asked"], apart := false, laid := [("joystick/regs.asked", laid_joystick_regs_asked), ("joystick/cpu.modes", laid_joystick_cpu_modes)] }
def CpuRunsSaid : Prop := cpuRunsRow.holds Tryz.pinned (OpenSpec.ofChange cpuRunsSpec)

/-- ITS FALSE NEIGHBOUR: 'it returns false'. Refute it at one input. -/
def cpuRunsWrong : ChangeSpec := { name := "cpuRuns", fn := fun _ => fun
  | [d1, d2, d3] => { results := [.lit (.bool false)], args := [d1, d2, d3] }
  | _ => none }
def CpuRunsWrongFalsely : Prop := cpuRunsRow.holds Tryz.pinned (OpenSpec.ofChange cpuRunsWrong)

/-- 'joysticklaw12.CpuInterrupts': WHATEVER THE INPUT: true; the input reads as it did. -/
def cpuInterruptsSpec : ChangeSpec := { name := "cpuInterrupts", fn := fun _ => fun
  | [d1, d2, d3] => { results := [.lit (.bool true)], args := [d1, d2, d3] }
  | _ => none }
def cpuInterruptsRow : OpenClaim := { program := "ytljjgakfnajifaagreatdoor", sum := "241ab9ddd087ff89d00260bcc00dae9992d000765141bc81bdaf67014eef7391", func := "joystick/joysticklaw12.CpuInterrupts", spec := "cpuInterrupts", unfollowed := true, recurses := true, named := ["joystick/cpu.modes", "joystick/regs.asked"], apart := false, laid := [("joystick/regs.asked", laid_joystick_regs_asked), ("joystick/cpu.modes", laid_joystick_cpu_modes)] }
def CpuInterruptsSaid : Prop := cpuInterruptsRow.holds Tryz.pinned (OpenSpec.ofChange cpuInterruptsSpec)

/-- ITS FALSE NEIGHBOUR: 'it returns false'. Refute it at one input. -/
def cpuInterruptsWrong : ChangeSpec := { name := "cpuInterrupts", fn := fun _ => fun
  | [d1, d2, d3] => { results := [.lit (.bool false)], args := [d1, d2, d3] }
  | _ => none }
def CpuInterruptsWrongFalsely : Prop := cpuInterruptsRow.holds Tryz.pinned (OpenSpec.ofChange cpuInterruptsWrong)

/-- 'joysticklaw12.CpuMoves': WHATEVER THE INPUT: true; the input reads as it did. -/
def cpuMovesSpec : ChangeSpec := { name := "cpuMoves", fn := fun _ => fun
  | [d1, d2] => { results := [.lit (.bool true)], args := [d1, d2] }
  | _ => none }
def cpuMovesRow : OpenClaim := { program := "ytljjgakfnajifaagreatdoor", sum := "241ab9ddd087ff89d00260bcc00dae9992d000765141bc81bdaf67014eef7391", func := "joystick/joysticklaw12.CpuMoves", spec := "cpuMoves", unfollowed := true, recurses := true, named := ["joystick/cpu.modes", "joystick/regs.asked"], apart := false, laid := [("joystick/regs.asked", laid_joystick_regs_asked), ("joystick/cpu.modes", laid_joystick_cpu_modes)] }
def CpuMovesSaid : Prop := cpuMovesRow.holds Tryz.pinned (OpenSpec.ofChange cpuMovesSpec)

/-- ITS FALSE NEIGHBOUR: 'it returns false'. Refute it at one input. -/
def cpuMovesWrong : ChangeSpec := { name := "cpuMoves", fn := fun _ => fun
  | [d1, d2] => { results := [.lit (.bool false)], args := [d1, d2] }
  | _ => none }
def CpuMovesWrongFalsely : Prop := cpuMovesRow.holds Tryz.pinned (OpenSpec.ofChange cpuMovesWrong)

/-- 'joysticklaw12.CpuBack': WHATEVER THE INPUT: true; the input reads as it did. -/
def cpuBackSpec : ChangeSpec := { name := "cpuBack", fn := fun _ => fun
  | [d1, d2] => { results := [.lit (.bool true)], args := [d1, d2] }
  | _ => none }
def cpuBackRow : OpenClaim := { program := "ytljjgakfnajifaagreatdoor", sum := "241ab9ddd087ff89d00260bcc00dae9992d000765141bc81bdaf67014eef7391", func := "joystick/joysticklaw12.CpuBack", spec := "cpuBack", unfollowed := true, recurses := true, named := ["joystick/cpu.modes", "joystick/regs.asked"], apart := false, laid := [("joystick/regs.asked", laid_joystick_regs_asked), ("joystick/cpu.modes", laid_joystick_cpu_modes)] }
def CpuBackSaid : Prop := cpuBackRow.holds Tryz.pinned (OpenSpec.ofChange cpuBackSpec)

/-- ITS FALSE NEIGHBOUR: 'it returns false'. Refute it at one input. -/
def cpuBackWrong : ChangeSpec := { name := "cpuBack", fn := fun _ => fun
  | [d1, d2] => { results := [.lit (.bool false)], args := [d1, d2] }
  | _ => none }
def CpuBackWrongFalsely : Prop := cpuBackRow.holds Tryz.pinned (OpenSpec.ofChange cpuBackWrong)

/-- 'joysticklaw12.CpuCopies': WHATEVER THE INPUT: true; the input reads as it did. -/
def cpuCopiesSpec : ChangeSpec := { name := "cpuCopies", fn := fun _ => fun
  | [d1, d2, d3] => { results := [.lit (.bool true)], args := [d1, d2, d3] }
  | _ => none }
def cpuCopiesRow : OpenClaim := { program := "ytljjgakfnajifaagreatdoor", sum := "241ab9ddd087ff89d00260bcc00dae9992d000765141bc81bdaf67014eef7391", func := "joystick/joysticklaw12.CpuCopies", spec := "cpuCopies", unfollowed := true, recurses := true, named := ["joystick/cpu.modes", "joystick/regs.asked"], apart := false, laid := [("joystick/regs.asked", laid_joystick_regs_asked), ("joystick/cpu.modes", laid_joystick_cpu_modes)] }
def CpuCopiesSaid : Prop := cpuCopiesRow.holds Tryz.pinned (OpenSpec.ofChange cpuCopiesSpec)

/-- ITS FALSE NEIGHBOUR: 'it returns false'. Refute it at one input. -/
def cpuCopiesWrong : ChangeSpec := { name := "cpuCopies", fn := fun _ => fun
  | [d1, d2, d3] => { results := [.lit (.bool false)], args := [d1, d2, d3] }
  | _ => none }
def CpuCopiesWrongFalsely : Prop := cpuCopiesRow.holds Tryz.pinned (OpenSpec.ofChange cpuCopiesWrong)

/-- 'joysticklaw12.CpuPrefixes': WHATEVER THE INPUT: true; the input reads as it did. -/
def cpuPrefixesSpec : ChangeSpec := { name := "cpuPrefixes", fn := fun _ => fun
  | [d1, d2, d3] => { results := [.lit (.bool true)], args := [d1, d2, d3] }
  | _ => none }
def cpuPrefixesRow : OpenClaim := { program := "ytljjgakfnajifaagreatdoor", sum := "241ab9ddd087ff89d00260bcc00dae9992d000765141bc81bdaf67014eef7391", func := "joystick/joysticklaw12.CpuPrefixes", spec := "cpuPrefixes", unfollowed := true, recurses := true, named := ["joystick/cpu.modes", "joystick/regs.asked"], apart := false, laid := [("joystick/regs.asked", laid_joystick_regs_asked), ("joystick/cpu.modes", laid_joystick_cpu_modes)] }
def CpuPrefixesSaid : Prop := cpuPrefixesRow.holds Tryz.pinned (OpenSpec.ofChange cpuPrefixesSpec)

/-- ITS FALSE NEIGHBOUR: 'it returns false'. Refute it at one input. -/
def cpuPrefixesWrong : ChangeSpec := { name := "cpuPrefixes", fn := fun _ => fun
  | [d1, d2, d3] => { results := [.lit (.bool false)], args := [d1, d2, d3] }
  | _ => none }
def CpuPrefixesWrongFalsely : Prop := cpuPrefixesRow.holds Tryz.pinned (OpenSpec.ofChange cpuPrefixesWrong)

/-- 'joysticklaw12.CpuCalls': WHATEVER THE INPUT: true; the input reads as it did. -/
def cpuCallsSpec : ChangeSpec := { name := "cpuCalls", fn := fun _ => fun
  | [d1, d2] => { results := [.lit (.bool true)], args := [d1, d2] }
  | _ => none }
def cpuCallsRow : OpenClaim := { program := "ytljjgakfnajifaagreatdoor", sum := "241ab9ddd087ff89d00260bcc00dae9992d000765141bc81bdaf67014eef7391", func := "joystick/joysticklaw12.CpuCalls", spec := "cpuCalls", unfollowed := true, recurses := true, named := ["joystick/cpu.modes", "joystick/regs.asked"], apart := false, laid := [("joystick/regs.asked", laid_joystick_regs_asked), ("joystick/cpu.modes", laid_joystick_cpu_modes)] }
def CpuCallsSaid : Prop := cpuCallsRow.holds Tryz.pinned (OpenSpec.ofChange cpuCallsSpec)

/-- ITS FALSE NEIGHBOUR: 'it returns false'. Refute it at one input. -/
def cpuCallsWrong : ChangeSpec := { name := "cpuCalls", fn := fun _ => fun
  | [d1, d2] => { results := [.lit (.bool false)], args := [d1, d2] }
  | _ => none }
def CpuCallsWrongFalsely : Prop := cpuCallsRow.holds Tryz.pinned (OpenSpec.ofChange cpuCallsWrong)

/-- 'joysticklaw12.CpuCounts': WHATEVER THE INPUT: true; the input reads as it did. -/
def cpuCountsSpec : ChangeSpec := { name := "cpuCounts", fn := fun _ => fun
  | [d1, d2] => { results := [.lit (.bool true)], args := [d1, d2] }
  | _ => none }
def cpuCountsRow : OpenClaim := { program := "ytljjgakfnajifaagreatdoor", sum := "241ab9ddd087ff89d00260bcc00dae9992d000765141bc81bdaf67014eef7391", func := "joystick/joysticklaw12.CpuCounts", spec := "cpuCounts", unfollowed := true, recurses := true, named := ["joystick/cpu.modes", "joystick/regs.asked"], apart := false, laid := [("joystick/regs.asked", laid_joystick_regs_asked), ("joystick/cpu.modes", laid_joystick_cpu_modes)] }
def CpuCountsSaid : Prop := cpuCountsRow.holds Tryz.pinned (OpenSpec.ofChange cpuCountsSpec)

/-- ITS FALSE NEIGHBOUR: 'it returns false'. Refute it at one input. -/
def cpuCountsWrong : ChangeSpec := { name := "cpuCounts", fn := fun _ => fun
  | [d1, d2] => { results := [.lit (.bool false)], args := [d1, d2] }
  | _ => none }
def CpuCountsWrongFalsely : Prop := cpuCountsRow.holds Tryz.pinned (OpenSpec.ofChange cpuCountsWrong)

/- THE SECOND FORM. 'bulk': how many values and letters a reading holds, each counted each time it is reached (what is shared counts as often as it is met; a slice's spare places count too). A statement '..UptoSaid' is the law's where the arguments, and the package variables that the reading takes, are together of bulk at most 1048576: NARROWER than '..Said'. Prove '..Said' where nothing that the law and all that it calls make is longer than what came in: it says more and counts as full. Else prove '..UptoSaid'. A law counts once. -/
mutual
def uptoBulk {H : Type} : DataW H → Nat
  | .lit (.string bytes) => bytes.length + 1
  | .lit _ => 1
  | .nil => 1
  | .ptr d => uptoBulk d + 1
  | .slice elems spare => uptoBulkAll elems + uptoBulkAll spare + 1
  | .agg parts => uptoBulkAll parts + 1
  | .iface _ d => uptoBulk d + 1
  | .map entries => uptoBulkEntries entries + 1
  | .held _ => 1
def uptoBulkAll {H : Type} : List (DataW H) → Nat
  | [] => 0
  | d :: r => uptoBulk d + uptoBulkAll r
def uptoBulkEntries {H : Type} : List (Lit × DataW H) → Nat
  | [] => 0
  | x :: r => uptoBulkEntry x + uptoBulkEntries r
def uptoBulkEntry {H : Type} : Lit × DataW H → Nat
  | (.string bytes, d) => bytes.length + uptoBulk d + 1
  | (_, d) => uptoBulk d + 1
 end
def uptoSmall : (H : Type) → List (DataW H) → Bool := fun _ ds => decide (uptoBulkAll ds ≤ 1048576)
def OpenSpec.upto (s : _root_.Go.ChangeSpec) : _root_.Go.OpenSpec := { _root_.Go.OpenSpec.ofChange s with cond := some uptoSmall }

/-- 'joysticklaw12.CpuNames', WHERE WHAT IT READS IS OF BULK AT MOST 1048576: true; the input reads as it did. -/
def cpuNamesUptoRow : OpenClaim := { program := "ytljjgakfnajifaagreatdoor", sum := "241ab9ddd087ff89d00260bcc00dae9992d000765141bc81bdaf67014eef7391", func := "joystick/joysticklaw12.CpuNames", spec := "cpuNames", unfollowed := true, recurses := true, named := ["joystick/cpu.modes", "joystick/regs.asked"], apart := false, laid := [("joystick/regs.asked", laid_joystick_regs_asked), ("joystick/cpu.modes", laid_joystick_cpu_modes)], narrowed := true }
def CpuNamesUptoSaid : Prop := cpuNamesUptoRow.holds Tryz.pinned (OpenSpec.upto cpuNamesSpec)

/-- 'joysticklaw12.CpuSteps', WHERE WHAT IT READS IS OF BULK AT MOST 1048576: true; the input reads as it did. -/
def cpuStepsUptoRow : OpenClaim := { program := "ytljjgakfnajifaagreatdoor", sum := "241ab9ddd087ff89d00260bcc00dae9992d000765141bc81bdaf67014eef7391", func := "joystick/joysticklaw12.CpuSteps", spec := "cpuSteps", unfollowed := true, recurses := true, named := ["joystick/cpu.modes", "joystick/regs.asked"], apart := false, laid := [("joystick/regs.asked", laid_joystick_regs_asked), ("joystick/cpu.modes", laid_joystick_cpu_modes)], narrowed := true }
def CpuStepsUptoSaid : Prop := cpuStepsUptoRow.holds Tryz.pinned (OpenSpec.upto cpuStepsSpec)

/-- 'joysticklaw12.CpuRuns', WHERE WHAT IT READS IS OF BULK AT MOST 1048576: true; the input reads as it did. -/
def cpuRunsUptoRow : OpenClaim := { program := "ytljjgakfnajifaagreatdoor", sum := "241ab9ddd087ff89d00260bcc00dae9992d000765141bc81bdaf67014eef7391", func := "joystick/joysticklaw12.CpuRuns", spec := "cpuRuns", unfollowed := true, recurses := true, named := ["joystick/cpu.modes", "joystick/regs.asked"], apart := false, laid := [("joystick/regs.asked", laid_joystick_regs_asked), ("joystick/cpu.modes", laid_joystick_cpu_modes)], narrowed := true }
def CpuRunsUptoSaid : Prop := cpuRunsUptoRow.holds Tryz.pinned (OpenSpec.upto cpuRunsSpec)

/-- 'joysticklaw12.CpuInterrupts', WHERE WHAT IT READS IS OF BULK AT MOST 1048576: true; the input reads as it did. -/
def cpuInterruptsUptoRow : OpenClaim := { program := "ytljjgakfnajifaagreatdoor", sum := "241ab9ddd087ff89d00260bcc00dae9992d000765141bc81bdaf67014eef7391", func := "joystick/joysticklaw12.CpuInterrupts", spec := "cpuInterrupts", unfollowed := true, recurses := true, named := ["joystick/cpu.modes", "joystick/regs.asked"], apart := false, laid := [("joystick/regs.asked", laid_joystick_regs_asked), ("joystick/cpu.modes", laid_joystick_cpu_modes)], narrowed := true }
def CpuInterruptsUptoSaid : Prop := cpuInterruptsUptoRow.holds Tryz.pinned (OpenSpec.upto cpuInterruptsSpec)

/-- 'joysticklaw12.CpuMoves', WHERE WHAT IT READS IS OF BULK AT MOST 1048576: true; the input reads as it did. -/
def cpuMovesUptoRow : OpenClaim := { program := "ytljjgakfnajifaagreatdoor", sum := "241ab9ddd087ff89d00260bcc00dae9992d000765141bc81bdaf67014eef7391", func := "joystick/joysticklaw12.CpuMoves", spec := "cpuMoves", unfollowed := true, recurses := true, named := ["joystick/cpu.modes", "joystick/regs.asked"], apart := false, laid := [("joystick/regs.asked", laid_joystick_regs_asked), ("joystick/cpu.modes", laid_joystick_cpu_modes)], narrowed := true }
def CpuMovesUptoSaid : Prop := cpuMovesUptoRow.holds Tryz.pinned (OpenSpec.upto cpuMovesSpec)

/-- 'joysticklaw12.CpuBack', WHERE WHAT IT READS IS OF BULK AT MOST 1048576: true; the input reads as it did. -/
def cpuBackUptoRow : OpenClaim := { program := "ytljjgakfnajifaagreatdoor", sum := "241ab9ddd087ff89d00260bcc00dae9992d000765141bc81bdaf67014eef7391", func := "joystick/joysticklaw12.CpuBack", spec := "cpuBack", unfollowed := true, recurses := true, named := ["joystick/cpu.modes", "joystick/regs.asked"], apart := false, laid := [("joystick/regs.asked", laid_joystick_regs_asked), ("joystick/cpu.modes", laid_joystick_cpu_modes)], narrowed := true }
def CpuBackUptoSaid : Prop := cpuBackUptoRow.holds Tryz.pinned (OpenSpec.upto cpuBackSpec)

/-- 'joysticklaw12.CpuCopies', WHERE WHAT IT READS IS OF BULK AT MOST 1048576: true; the input reads as it did. -/
def cpuCopiesUptoRow : OpenClaim := { program := "ytljjgakfnajifaagreatdoor", sum := "241ab9ddd087ff89d00260bcc00dae9992d000765141bc81bdaf67014eef7391", func := "joystick/joysticklaw12.CpuCopies", spec := "cpuCopies", unfollowed := true, recurses := true, named := ["joystick/cpu.modes", "joystick/regs.asked"], apart := false, laid := [("joystick/regs.asked", laid_joystick_regs_asked), ("joystick/cpu.modes", laid_joystick_cpu_modes)], narrowed := true }
def CpuCopiesUptoSaid : Prop := cpuCopiesUptoRow.holds Tryz.pinned (OpenSpec.upto cpuCopiesSpec)

/-- 'joysticklaw12.CpuPrefixes', WHERE WHAT IT READS IS OF BULK AT MOST 1048576: true; the input reads as it did. -/
def cpuPrefixesUptoRow : OpenClaim := { program := "ytljjgakfnajifaagreatdoor", sum := "241ab9ddd087ff89d00260bcc00dae9992d000765141bc81bdaf67014eef7391", func := "joystick/joysticklaw12.CpuPrefixes", spec := "cpuPrefixes", unfollowed := true, recurses := true, named := ["joystick/cpu.modes", "joystick/regs.asked"], apart := false, laid := [("joystick/regs.asked", laid_joystick_regs_asked), ("joystick/cpu.modes", laid_joystick_cpu_modes)], narrowed := true }
def CpuPrefixesUptoSaid : Prop := cpuPrefixesUptoRow.holds Tryz.pinned (OpenSpec.upto cpuPrefixesSpec)

/-- 'joysticklaw12.CpuCalls', WHERE WHAT IT READS IS OF BULK AT MOST 1048576: true; the input reads as it did. -/
def cpuCallsUptoRow : OpenClaim := { program := "ytljjgakfnajifaagreatdoor", sum := "241ab9ddd087ff89d00260bcc00dae9992d000765141bc81bdaf67014eef7391", func := "joystick/joysticklaw12.CpuCalls", spec := "cpuCalls", unfollowed := true, recurses := true, named := ["joystick/cpu.modes", "joystick/regs.asked"], apart := false, laid := [("joystick/regs.asked", laid_joystick_regs_asked), ("joystick/cpu.modes", laid_joystick_cpu_modes)], narrowed := true }
def CpuCallsUptoSaid : Prop := cpuCallsUptoRow.holds Tryz.pinned (OpenSpec.upto cpuCallsSpec)

/-- 'joysticklaw12.CpuCounts', WHERE WHAT IT READS IS OF BULK AT MOST 1048576: true; the input reads as it did. -/
def cpuCountsUptoRow : OpenClaim := { program := "ytljjgakfnajifaagreatdoor", sum := "241ab9ddd087ff89d00260bcc00dae9992d000765141bc81bdaf67014eef7391", func := "joystick/joysticklaw12.CpuCounts", spec := "cpuCounts", unfollowed := true, recurses := true, named := ["joystick/cpu.modes", "joystick/regs.asked"], apart := false, laid := [("joystick/regs.asked", laid_joystick_regs_asked), ("joystick/cpu.modes", laid_joystick_cpu_modes)], narrowed := true }
def CpuCountsUptoSaid : Prop := cpuCountsUptoRow.holds Tryz.pinned (OpenSpec.upto cpuCountsSpec)

end Rows
end Go.Proofs.YtljjgakfnajifaaGreatDoor
