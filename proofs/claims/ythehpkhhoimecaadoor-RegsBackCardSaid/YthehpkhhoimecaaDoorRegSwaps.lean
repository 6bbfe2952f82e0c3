/-
  Registers that change places, one by one. Nothing here speaks of the program.
-/
import Derived.Test.YthehpkhhoimecaaDoorRegSpec
namespace Go.Proofs.YthehpkhhoimecaaDoor
open Go.RowKit

/-- a register and its other change places -/
def Rg.swapAt (r : Rg) : Nat → Rg
  | 0 => { r with a := r.x0, x0 := r.a }
  | 1 => { r with f := r.x1, x1 := r.f }
  | 2 => { r with b := r.x2, x2 := r.b }
  | 3 => { r with c := r.x3, x3 := r.c }
  | 4 => { r with d := r.x4, x4 := r.d }
  | 5 => { r with e := r.x5, x5 := r.e }
  | 6 => { r with h := r.x6, x6 := r.h }
  | 7 => { r with l := r.x7, x7 := r.l }
  | _ => r
/-- the registers from a place on have changed places, up to another one -/
def Rg.swapTo (r : Rg) (m : Nat) : Nat → Rg
  | 0 => r
  | k + 1 => (r.swapTo m k).swapAt (m + k)
theorem Rg.swapTo_two (r : Rg) : r.swapTo 0 2 = r.swap false := rfl
theorem Rg.swapTo_six (r : Rg) : r.swapTo 2 6 = r.swap true := rfl

end Go.Proofs.YthehpkhhoimecaaDoor
