/-
  DERIVED. GIVEN WITH THE SEED: THE PROGRAM's TIES (one call each: nine closed facts by the kernel) AND EACH ROW's TIE, after the 31st guide's Derived/Test/Toyas{Tie, Card}.lean. No idea stands in it: it is a product of the set-up. Laid BY PROGRAM, IN A SANDBOX (cutbox-door.mjs). By AI agents, Wed Nov 11 2026. No macro, syntax, notation, axiom, sorry.
-/
import Derived.Test.YtaiceidmcelapaaDoorRows
import Derived.LaidByTextLater
import Derived.SevenTiedAt
import Derived.LaidSub
import Derived.LaidOnce
namespace Go.Proofs.YtaiceidmcelapaaDoor
open Go
set_option maxRecDepth 100000
theorem seatTie1 : Tryd.prog.laidByTextLater [("math/bits.deBruijn32tab", Rows.laid_math_bits_deBruijn32tab), ("math/bits.deBruijn64tab", Rows.laid_math_bits_deBruijn64tab), ("internal/strconv.uint64pow10", Rows.laid_internal_strconv_uint64pow10), ("joystick/names.singles", Rows.laid_joystick_names_singles), ("joystick/names.wides", Rows.laid_joystick_names_wides), ("joystick/names.stacked", Rows.laid_joystick_names_stacked), ("joystick/names.conditions", Rows.laid_joystick_names_conditions), ("joystick/names.eightSums", Rows.laid_joystick_names_eightSums), ("joystick/names.eightTurns", Rows.laid_joystick_names_eightTurns), ("joystick/names.starts", Rows.laid_joystick_names_starts), ("joystick/names.places", Rows.laid_joystick_names_places), ("joystick/names.quicks", Rows.laid_joystick_names_quicks), ("joystick/names.bitActs", Rows.laid_joystick_names_bitActs), ("joystick/names.modes", Rows.laid_joystick_names_modes), ("joystick/names.oddMoves", Rows.laid_joystick_names_oddMoves), ("joystick/names.manyActs", Rows.laid_joystick_names_manyActs), ("joystick/names.manySteps", Rows.laid_joystick_names_manySteps)] [.data, .data, .data, .data, .data, .data, .data, .data, .data, .data, .data, .data, .data, .data, .data, .data, .data] true :=
  Program.laidByTextLater_by_one 94 8 65 (by kernel_rfl) (by kernel_rfl) (by kernel_rfl) (by kernel_rfl) (by kernel_rfl) (by kernel_rfl) (fun _ _ => by kernel_rfl)
theorem noOwnUnsafe : Tryd.pinned.checked.prog.headLifts.contains "ownunsafe" = false := by kernel_rfl
theorem tie : Tryd.prog.laidByTextLater [("math/bits.deBruijn32tab", Rows.laid_math_bits_deBruijn32tab), ("math/bits.deBruijn64tab", Rows.laid_math_bits_deBruijn64tab), ("internal/strconv.uint64pow10", Rows.laid_internal_strconv_uint64pow10), ("joystick/names.singles", Rows.laid_joystick_names_singles), ("joystick/names.wides", Rows.laid_joystick_names_wides), ("joystick/names.stacked", Rows.laid_joystick_names_stacked), ("joystick/names.conditions", Rows.laid_joystick_names_conditions), ("joystick/names.eightSums", Rows.laid_joystick_names_eightSums), ("joystick/names.eightTurns", Rows.laid_joystick_names_eightTurns), ("joystick/names.starts", Rows.laid_joystick_names_starts), ("joystick/names.places", Rows.laid_joystick_names_places), ("joystick/names.quicks", Rows.laid_joystick_names_quicks), ("joystick/names.bitActs", Rows.laid_joystick_names_bitActs), ("joystick/names.modes", Rows.laid_joystick_names_modes), ("joystick/names.oddMoves", Rows.laid_joystick_names_oddMoves), ("joystick/names.manyActs", Rows.laid_joystick_names_manyActs), ("joystick/names.manySteps", Rows.laid_joystick_names_manySteps)] [.data, .data, .data, .data, .data, .data, .data, .data, .data, .data, .data, .data, .data, .data, .data, .data, .data] true :=
  Program.laidByTextLater.sub seatTie1 ["math/bits.deBruijn32tab", "math/bits.deBruijn64tab", "internal/strconv.uint64pow10", "joystick/names.singles", "joystick/names.wides", "joystick/names.stacked", "joystick/names.conditions", "joystick/names.eightSums", "joystick/names.eightTurns", "joystick/names.starts", "joystick/names.places", "joystick/names.quicks", "joystick/names.bitActs", "joystick/names.modes", "joystick/names.oddMoves", "joystick/names.manyActs", "joystick/names.manySteps"] (by kernel_rfl) (by kernel_rfl)
theorem namesPages_row_tie : Rows.namesPagesRow.laidByTextAt .later Tryd.pinned [.data, .data, .data, .data, .data, .data, .data, .data, .data, .data, .data, .data, .data, .data, .data, .data, .data] true :=
  OpenClaim.laidByTextAt_later rfl rfl tie noOwnUnsafe
theorem namesAll_row_tie : Rows.namesAllRow.laidByTextAt .later Tryd.pinned [.data, .data, .data, .data, .data, .data, .data, .data, .data, .data, .data, .data, .data, .data, .data, .data, .data] true :=
  OpenClaim.laidByTextAt_later rfl rfl tie noOwnUnsafe
theorem namesReads_row_tie : Rows.namesReadsRow.laidByTextAt .later Tryd.pinned [.data, .data, .data, .data, .data, .data, .data, .data, .data, .data, .data, .data, .data, .data, .data, .data, .data] true :=
  OpenClaim.laidByTextAt_later rfl rfl tie noOwnUnsafe
theorem namesEnds_row_tie : Rows.namesEndsRow.laidByTextAt .later Tryd.pinned [.data, .data, .data, .data, .data, .data, .data, .data, .data, .data, .data, .data, .data, .data, .data, .data, .data] true :=
  OpenClaim.laidByTextAt_later rfl rfl tie noOwnUnsafe
theorem namesDiffer_row_tie : Rows.namesDifferRow.laidByTextAt .later Tryd.pinned [.data, .data, .data, .data, .data, .data, .data, .data, .data, .data, .data, .data, .data, .data, .data, .data, .data] true :=
  OpenClaim.laidByTextAt_later rfl rfl tie noOwnUnsafe
theorem namesPagesUpto_row_tie : Rows.namesPagesUptoRow.laidByTextAt .later Tryd.pinned [.data, .data, .data, .data, .data, .data, .data, .data, .data, .data, .data, .data, .data, .data, .data, .data, .data] true :=
  OpenClaim.laidByTextAt_later rfl rfl tie noOwnUnsafe
theorem namesAllUpto_row_tie : Rows.namesAllUptoRow.laidByTextAt .later Tryd.pinned [.data, .data, .data, .data, .data, .data, .data, .data, .data, .data, .data, .data, .data, .data, .data, .data, .data] true :=
  OpenClaim.laidByTextAt_later rfl rfl tie noOwnUnsafe
theorem namesReadsUpto_row_tie : Rows.namesReadsUptoRow.laidByTextAt .later Tryd.pinned [.data, .data, .data, .data, .data, .data, .data, .data, .data, .data, .data, .data, .data, .data, .data, .data, .data] true :=
  OpenClaim.laidByTextAt_later rfl rfl tie noOwnUnsafe
theorem namesEndsUpto_row_tie : Rows.namesEndsUptoRow.laidByTextAt .later Tryd.pinned [.data, .data, .data, .data, .data, .data, .data, .data, .data, .data, .data, .data, .data, .data, .data, .data, .data] true :=
  OpenClaim.laidByTextAt_later rfl rfl tie noOwnUnsafe
theorem namesDifferUpto_row_tie : Rows.namesDifferUptoRow.laidByTextAt .later Tryd.pinned [.data, .data, .data, .data, .data, .data, .data, .data, .data, .data, .data, .data, .data, .data, .data, .data, .data] true :=
  OpenClaim.laidByTextAt_later rfl rfl tie noOwnUnsafe
end Go.Proofs.YtaiceidmcelapaaDoor
