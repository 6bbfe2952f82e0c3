/-
  The low bits of an int. Nothing here speaks of the program.
-/
import Derived.Test.YtaiceidmcelapaaDoorWords
namespace Go.Proofs.YtaiceidmcelapaaDoor
open Go.RowKit

theorem i64_and_low (x : Int) (k : Nat) (hk : k < 60) : bits .and .i64 x ((2 ^ k - 1 : Nat) : Int) = x % ((2 ^ k : Nat) : Int) := by
  have h2 : 2 ^ k ≤ 2 ^ 59 := Nat.pow_le_pow_right (by omega) (by omega)
  have h0 : 0 < 2 ^ k := Nat.two_pow_pos k
  have hd : ((2 ^ k : Nat) : Int) ∣ ((2 ^ 64 : Nat) : Int) := by
    refine Int.natCast_dvd_natCast.2 ?_
    exact Nat.pow_dvd_pow 2 (by omega)
  have e : (BitVec.ofInt 64 x &&& BitVec.ofInt 64 ((2 ^ k - 1 : Nat) : Int)).toNat = (x % ((2 ^ k : Nat) : Int)).toNat := by
    rw [BitVec.toNat_and, BitVec.toNat_ofInt, BitVec.toNat_ofInt]
    have e1 : (((2 ^ k - 1 : Nat) : Int) % ((2 ^ 64 : Nat) : Int)).toNat = 2 ^ k - 1 := by
      rw [Int.emod_eq_of_lt (by omega) (by omega), Int.toNat_natCast]
    rw [e1, Nat.and_two_pow_sub_one_eq_mod]
    have e2 := Int.emod_emod_of_dvd x hd
    have p1 := Int.emod_nonneg x (show ((2 ^ 64 : Nat) : Int) ≠ 0 by decide)
    obtain ⟨m, hm⟩ := Int.eq_ofNat_of_zero_le p1
    rw [hm] at e2 ⊢
    rw [← e2, Int.toNat_natCast, ← Int.natCast_emod, Int.toNat_natCast]
  show IntKind.i64.wrap ((BitVec.ofInt 64 x &&& BitVec.ofInt 64 ((2 ^ k - 1 : Nat) : Int)).toNat : Int) = _
  have p1 := Int.emod_nonneg x (show ((2 ^ k : Nat) : Int) ≠ 0 by omega)
  have p2 := Int.emod_lt_of_pos x (show 0 < ((2 ^ k : Nat) : Int) by omega)
  rw [e, IntWalk.i64_in _ (by omega)]
  omega
theorem i64_low2 (x : Int) : bits .and .i64 x 3 = x % 4 := i64_and_low x 2 (by omega)
theorem i64_low1 (x : Int) : bits .and .i64 x 1 = x % 2 := i64_and_low x 1 (by omega)

end Go.Proofs.YtaiceidmcelapaaDoor
