/-
  A bus's zero value and how a bus is built, as lists of cells.
-/
import Derived.Test.YtlnoomganphbeaaZeros
namespace Go.Proofs.Ytlnoomganphbeaa
open Go.RowKit

set_option maxRecDepth 100000 in
theorem bus_zeros : isZeros ((zeroCells Try.t61).drop 1) 40964 = true := by kernel_rfl
set_option maxRecDepth 100000 in
theorem bus_head : (zeroCells Try.t61).head? = some (.pointer none) := by kernel_rfl
set_option maxRecDepth 100000 in
theorem bus_isAgg : isAggZ Try.t61 = true := by kernel_rfl

/-- a bus's cells: its cartridge, then the bytes of RAM, PAPER and MAPPER -/
def busCells (p : Value) (zs : List Int) : Array Value := (p :: u8s zs).toArray

theorem bus_zero : Try.t61.zero = some (.agg (busCells (.pointer none) (zeros 40964))) := by
  unfold busCells
  rw [u8s_zeros]
  exact zero_of bus_isAgg (head_drop bus_head (isZeros_eq _ _ bus_zeros))

theorem bus_zeroValue (w : World) : (zeroValue 61).run Try.prog w = .ok (.agg (busCells (.pointer none) (zeros 40964))) w := by
  have hz := bus_zero
  unfold zeroValue
  simp only [Sem.run_bind, Try.typeInfo61, Result.andThen_ok]
  rw [hz]
  rfl

theorem busCells_size (p : Value) (zs : List Int) : (busCells p zs).size = zs.length + 1 := by simp [busCells]

/-- a bus as it is made: its mapper's bytes laid into the zeros -/
theorem busCells_laid (p : Value) (m0 m1 m2 m3 : Int) (k : Nat) :
    (((((busCells (.pointer none) (zeros (k + 4))).setIfInBounds 0 p).setIfInBounds (1 + k) (.int .u8 m0)).setIfInBounds (1 + k + 1) (.int .u8 m1)).setIfInBounds (1 + k + 2) (.int .u8 m2)).setIfInBounds (1 + k + 3) (.int .u8 m3) =
      busCells p (zeros k ++ [m0, m1, m2, m3]) := by
  have hz : u8s (zeros (k + 4)) = u8s (zeros k) ++ [.int .u8 0, .int .u8 0, .int .u8 0, .int .u8 0] := by
    rw [show zeros (k + 4) = zeros k ++ zeros 4 from (zeros_append k 4).symm, u8s_append]; rfl
  have hl : (u8s (zeros k)).length = k := by simp [zeros]
  unfold busCells
  rw [hz, u8s_append]
  generalize u8s (zeros k) = l at hl
  apply Array.ext'
  simp only [List.setIfInBounds_toArray, List.set_cons_zero]
  subst hl
  rw [show 1 + l.length = l.length + 1 by omega]
  simp [List.set_cons_succ, List.set_append_right, u8s]

end Go.Proofs.Ytlnoomganphbeaa
