/-
  The bit operations of int, by those of uint64: where the answer is no less than nothing and below 2^63 they are the same. Nothing here speaks of the program.
-/
import Derived.Test.YtnkfelflpkbobaaDoorWords
import Derived.Laws.BitsAll
namespace Go.Proofs.YtnkfelflpkbobaaDoor
open Go.RowKit

theorem u64_self (n : Nat) (h : n < 18446744073709551616) : IntKind.u64.wrap (n : Int) = (n : Int) := by
  rw [IntKind.wrap_u64]; exact Int.emod_eq_of_lt (by omega) (by omega)
theorem i64_and (a b r : Int) (h : bits .and .u64 a b = r) (r0 : 0 ≤ r) (r1 : r < 9223372036854775808) : bits .and .i64 a b = r := by
  have e : bits .and .u64 a b = ((BitVec.ofInt 64 a &&& BitVec.ofInt 64 b).toNat : Int) := u64_self _ (BitVec.isLt _)
  show IntKind.i64.wrap ((BitVec.ofInt 64 a &&& BitVec.ofInt 64 b).toNat : Int) = r
  rw [← e, h]
  exact IntWalk.i64_in _ (by omega)
theorem i64_or (a b r : Int) (h : bits .or .u64 a b = r) (r0 : 0 ≤ r) (r1 : r < 9223372036854775808) : bits .or .i64 a b = r := by
  have e : bits .or .u64 a b = ((BitVec.ofInt 64 a ||| BitVec.ofInt 64 b).toNat : Int) := u64_self _ (BitVec.isLt _)
  show IntKind.i64.wrap ((BitVec.ofInt 64 a ||| BitVec.ofInt 64 b).toNat : Int) = r
  rw [← e, h]
  exact IntWalk.i64_in _ (by omega)
theorem i64_xor (a b r : Int) (h : bits .xor .u64 a b = r) (r0 : 0 ≤ r) (r1 : r < 9223372036854775808) : bits .xor .i64 a b = r := by
  have e : bits .xor .u64 a b = ((BitVec.ofInt 64 a ^^^ BitVec.ofInt 64 b).toNat : Int) := u64_self _ (BitVec.isLt _)
  show IntKind.i64.wrap ((BitVec.ofInt 64 a ^^^ BitVec.ofInt 64 b).toNat : Int) = r
  rw [← e, h]
  exact IntWalk.i64_in _ (by omega)
theorem i64_andNot (a b r : Int) (h : bits .andNot .u64 a b = r) (r0 : 0 ≤ r) (r1 : r < 9223372036854775808) : bits .andNot .i64 a b = r := by
  have e : bits .andNot .u64 a b = ((BitVec.ofInt 64 a &&& ~~~ BitVec.ofInt 64 b).toNat : Int) := u64_self _ (BitVec.isLt _)
  show IntKind.i64.wrap ((BitVec.ofInt 64 a &&& ~~~ BitVec.ofInt 64 b).toNat : Int) = r
  rw [← e, h]
  exact IntWalk.i64_in _ (by omega)
/-- without its lowest bits -/
theorem nat_floor (p k : Nat) (hp : p < 2 ^ 64) (hk : k < 64) : p &&& (2 ^ 64 - ((2 ^ k - 1) + 1)) = p / 2 ^ k * 2 ^ k := by
  apply Nat.eq_of_testBit_eq
  intro i
  have h2k : 2 ^ k - 1 < 2 ^ 64 := Nat.lt_of_le_of_lt (Nat.sub_le _ _) (Nat.pow_lt_pow_right (by omega) hk)
  rw [Nat.testBit_and, Nat.mul_comm, Nat.testBit_two_pow_mul, Nat.testBit_div_two_pow, Nat.testBit_two_pow_sub_succ h2k, Nat.testBit_two_pow_sub_one]
  by_cases h1 : i < k
  · simp [h1]; intro h; omega
  · rw [show i - k + k = i by omega]
    by_cases h2 : i < 64
    · simp [h1, h2]; omega
    · have : p.testBit i = false := Nat.testBit_lt_two_pow (Nat.lt_of_lt_of_le hp (Nat.pow_le_pow_right (by omega) (by omega)))
      simp [this]
theorem i64_floor16 (p : Int) (p0 : 0 ≤ p) (p1 : p < 9223372036854775808) : bits .andNot .i64 p 15 = p / 16 * 16 := by
  refine i64_andNot _ _ _ ?_ (by omega) (by omega)
  rw [u64_andNot p 15 p0 (by omega) (by omega) (by omega)]
  obtain ⟨P, rfl⟩ := Int.eq_ofNat_of_zero_le p0
  have := nat_floor P 4 (by omega) (by omega)
  rw [Int.toNat_natCast, show (18446744073709551615 - (15 : Int).toNat) = 2 ^ 64 - ((2 ^ 4 - 1) + 1) by decide, this]
  omega

end Go.Proofs.YtnkfelflpkbobaaDoor
