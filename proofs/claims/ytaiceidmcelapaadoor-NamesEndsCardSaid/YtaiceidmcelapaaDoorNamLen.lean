/-
  How long the texts are, at most.
-/
import Derived.Test.YtaiceidmcelapaaDoorNamSpec
set_option linter.unusedSimpArgs false
set_option linter.unusedVariables false
namespace Go.Proofs.YtaiceidmcelapaaDoor

def pairs : List Tx := [pHL, pIX, pIY]
def tabs14 : List (List Tx) := [t_singles, t_wides, t_stacked, t_conditions, t_eightSums, t_eightTurns, t_starts, t_places, t_quicks, t_bitActs, t_modes, t_oddMoves, t_manyActs, t_manySteps]
theorem len_sg : ∀ t ∈ tabs14, ∀ y < 8, (sg t y).length ≤ 12 := by decide +kernel
theorem len_pair : ∀ pair ∈ pairs, pair.length ≤ 2 := by decide +kernel
theorem len_memory : ∀ pair ∈ pairs, (cMemory pair).length ≤ 12 := by decide +kernel
theorem len_single : ∀ pair ∈ pairs, ∀ y < 8, (cSingle y pair).length ≤ 12 := by decide +kernel
theorem len_pointing : ∀ pair ∈ pairs, ∀ y < 4, (cPointing (sg t_wides y) pair).length ≤ 12 := by decide +kernel
theorem len_pointing2 : ∀ pair ∈ pairs, ∀ y < 4, (cPointing (sg t_stacked y) pair).length ≤ 12 := by decide +kernel
theorem len_placed : ∀ pair ∈ pairs, ∀ y < 4, (cPlaced y pair).length ≤ 12 := by decide +kernel
theorem len_dec : ∀ y < 100, (dec3 y).length ≤ 12 := by decide +kernel
theorem len_onBits : ∀ pair ∈ pairs, ∀ x < 4, ∀ y < 8, (cOnBits x y (cMemory pair)).length ≤ 24 := by decide +kernel
theorem len_load (a b : Tx) : (cLoad a b).length = a.length + b.length + 4 := by simp only [cLoad, List.length_append, List.length_cons, List.length_nil]; omega

end Go.Proofs.YtaiceidmcelapaaDoor
