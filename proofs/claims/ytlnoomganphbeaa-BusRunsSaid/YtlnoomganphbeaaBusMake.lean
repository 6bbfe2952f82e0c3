/-
  The operation that builds a bus.
-/
import Derived.Test.YtlnoomganphbeaaBusBox
namespace Go.Proofs.Ytlnoomganphbeaa
open Go.RowKit

theorem bus_build (a : Option Addr) (m0 m1 m2 m3 : Int) (w : World) :
    (Instr.build 61 #[(0, .pointer a), (3, .agg #[.int .u8 m0, .int .u8 m1, .int .u8 m2, .int .u8 m3])]).run Try.prog w =
      .ok (.agg (busCells (.pointer a) (zeros 40960 ++ [m0, m1, m2, m3]))) w := by
  have hl := busCells_laid (.pointer a) m0 m1 m2 m3 40960
  have hs : (busCells (.pointer none) (zeros 40964)).size = 40965 := by rw [busCells_size, zeros_length]
  unfold Instr.build
  simp only [Sem.run_bind, bus_zeroValue, Result.andThen_ok, Value.cells, Try.runUnderlying61]
  generalize hZ : busCells (.pointer none) (zeros 40964) = Z at hs
  have hl' := hl
  rw [show zeros (40960 + 4) = zeros 40964 from rfl, hZ] at hl'
  rw [← hl']
  simp [go_sem, Instr.fill, hs, Value.cells]

end Go.Proofs.Ytlnoomganphbeaa
