/-
  What Flip and Do make of bytes, by numbers. Nothing here speaks of the program.
-/
import Derived.Test.YthjjdpelddboeaaSumSpec
namespace Go.Proofs.Ythjjdpelddboeaa

/-- what Flip makes of a byte, and of flags -/
def flipV (op : Int) (a : Nat) : Nat := if op = 0 then 255 - a else a
def flipF (op : Int) (a f : Nat) : Nat := if op = 0 then nFlipF0 a f else if op = 1 then nFlipF1 a f else if op = 2 then nFlipF2 a f else f
theorem flipV_lt (op : Int) (a : Nat) (h : a < 256) : flipV op a < 256 := by unfold flipV; split <;> omega
theorem flipF_lt (op : Int) (a f : Nat) (h : f < 256) : flipF op a f < 256 := by
  unfold flipF
  split
  · exact nByte_lt _ _ _ _ _ _ _ _
  · split
    · exact nByte_lt _ _ _ _ _ _ _ _
    · split
      · exact nByte_lt _ _ _ _ _ _ _ _
      · exact h

/-- what Do makes of two bytes, by the lowest three bits of op -/
def nDoV (k a b f : Nat) : Nat :=
  match k with
  | 0 => nAddV a b 0 | 1 => nAddV a b (cond (nBit 1 f) 1 0) | 2 => nSubV a b 0 | 3 => nSubV a b (cond (nBit 1 f) 1 0)
  | 4 => a &&& b | 5 => a ^^^ b | 6 => a ||| b | _ => a
def nDoF (k a b f : Nat) : Nat :=
  match k with
  | 0 => nAddF a b 0 | 1 => nAddF a b (cond (nBit 1 f) 1 0) | 2 => nSubF a b 0 | 3 => nSubF a b (cond (nBit 1 f) 1 0)
  | 4 => nBitsF (a &&& b) true | 5 => nBitsF (a ^^^ b) false | 6 => nBitsF (a ||| b) false | _ => nCmp a b

end Go.Proofs.Ythjjdpelddboeaa
