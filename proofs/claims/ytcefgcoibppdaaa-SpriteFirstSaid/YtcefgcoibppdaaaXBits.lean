/-
  The lowest three bits of an int. Nothing here speaks of the program.
-/
import Derived.Test.YtcefgcoibppdaaaWords
import Derived.Laws.BitsAll
namespace Go.Proofs.Ytcefgcoibppdaaa
open Go.RowKit

theorem i64_and7 (x : Int) : bits .and .i64 x 7 = x % 8 := by
  have e : (BitVec.ofInt 64 x &&& BitVec.ofInt 64 7).toNat = (x % 8).toNat := by
    rw [BitVec.toNat_and, BitVec.toNat_ofInt, BitVec.toNat_ofInt]
    rw [show ((7 : Int) % ((2 ^ 64 : Nat) : Int)).toNat = 2 ^ 3 - 1 by decide, Nat.and_two_pow_sub_one_eq_mod]
    omega
  show IntKind.i64.wrap ((BitVec.ofInt 64 x &&& BitVec.ofInt 64 7).toNat : Int) = _
  rw [e]
  rw [IntWalk.i64_in _ (by omega)]
  omega

end Go.Proofs.Ytcefgcoibppdaaa
