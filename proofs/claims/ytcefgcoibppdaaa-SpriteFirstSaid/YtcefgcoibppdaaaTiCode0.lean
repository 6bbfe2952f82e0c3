/-
  The landed code's remainder and At.
-/
import Derived.Test.YtcefgcoibppdaaaVram
import Derived.Laws.BitsAll
namespace Go.Proofs.Ytcefgcoibppdaaa
open Go.RowKit

theorem i64_mask (x : Int) (k : Nat) (m m1 : Nat) (hm : m = 2 ^ k - 1) (hm1 : (m1 : Int) = 2 ^ k) (hk : k < 32) : bits .and .i64 x (m : Int) = x % (m1 : Int) := by
  have hp : 2 ^ k < 2 ^ 32 := Nat.pow_lt_pow_right (by omega) hk
  have h1 : m1 = 2 ^ k := by exact_mod_cast hm1
  have hpos : 0 < 2 ^ k := Nat.pow_pos (by omega)
  have e : (BitVec.ofInt 64 x &&& BitVec.ofInt 64 (m : Int)).toNat = (x % (m1 : Int)).toNat := by
    rw [BitVec.toNat_and, BitVec.toNat_ofInt, BitVec.toNat_ofInt]
    rw [show ((m : Int) % ((2 ^ 64 : Nat) : Int)).toNat = 2 ^ k - 1 by rw [Int.emod_eq_of_lt (by omega) (by omega), Int.toNat_natCast, hm], Nat.and_two_pow_sub_one_eq_mod, ← h1]
    have hd : (m1 : Int) ∣ ((2 ^ 64 : Nat) : Int) := by rw [h1]; exact_mod_cast Nat.pow_dvd_pow 2 (by omega : k ≤ 64)
    have h0 : 0 ≤ x % ((2 ^ 64 : Nat) : Int) := Int.emod_nonneg _ (by decide)
    have h2 : ((x % ((2 ^ 64 : Nat) : Int)).toNat % m1 : Nat) = (((x % ((2 ^ 64 : Nat) : Int)).toNat : Int) % (m1 : Int)).toNat := by
      rw [← Int.natCast_emod, Int.toNat_natCast]
    rw [h2, Int.toNat_of_nonneg h0, Int.emod_emod_of_dvd _ hd]
  show IntKind.i64.wrap ((BitVec.ofInt 64 x &&& BitVec.ofInt 64 (m : Int)).toNat : Int) = _
  rw [e]
  have a0 : 0 ≤ x % (m1 : Int) := Int.emod_nonneg _ (by omega)
  have a1 : x % (m1 : Int) < (m1 : Int) := Int.emod_lt_of_pos _ (by omega)
  rw [IntWalk.i64_in _ (by omega)]
  omega

theorem mod_512 (n r : Int) (h : Hid (n % 512 = r)) (w : World) : Calls Try.prog 26 #[.int .i64 n, .int .i64 512] w fun e w' => e = .returned (.int .i64 r) ∧ w = w' := by
  have E : bits .and .i64 n 511 = r := (i64_mask n 9 511 512 (by decide) (by decide) (by decide)).trans h.out
  go_enter Try.func26, Try.ntmps26
  go_wp2
  go_ret
  exact ⟨rfl, rfl⟩

theorem mod_8 (n r : Int) (h : Hid (n % 8 = r)) (w : World) : Calls Try.prog 26 #[.int .i64 n, .int .i64 8] w fun e w' => e = .returned (.int .i64 r) ∧ w = w' := by
  have E : bits .and .i64 n 7 = r := (i64_mask n 3 7 8 (by decide) (by decide) (by decide)).trans h.out
  go_enter Try.func26, Try.ntmps26
  go_wp2
  go_ret
  exact ⟨rfl, rfl⟩

theorem mod_16384 (n r : Int) (h : Hid (n % 16384 = r)) (w : World) : Calls Try.prog 26 #[.int .i64 n, .int .i64 16384] w fun e w' => e = .returned (.int .i64 r) ∧ w = w' := by
  have E : bits .and .i64 n 16383 = r := (i64_mask n 14 16383 16384 (by decide) (by decide) (by decide)).trans h.out
  go_enter Try.func26, Try.ntmps26
  go_wp2
  go_ret
  exact ⟨rfl, rfl⟩

set_option maxRecDepth 100000 in
theorem at_at (a : Option Addr) (n cap : Nat) (xs : Nat → Nat) (p : Int) (k v : Nat) (hk : Hid (p % 16384 = (k : Int))) (hv : Hid (vget n xs k = v)) (w : World) (hV : ByteRow w a n xs) :
    Calls Try.prog 17 #[.slice a n cap, .int .i64 p] w fun e w' => e = .returned (.int .u8 (v : Int)) ∧ w = w' := by
  have h := hv.out
  have HK := hk
  have k1 : (k : Int) < 16384 := by have := hk.out; omega
  unfold vget at h
  by_cases hlt : k < n
  · rw [if_pos hlt] at h
    obtain ⟨g, o, rfl, hg, hc⟩ := hV (by omega)
    have hc' := (hc k hlt).1
    rw [h] at hc'
    have hlt' : (k : Int) < (n : Int) := by omega
    clear h hc hk hv hV hlt
    go_enter Try.func17, Try.ntmps17
    go_wp2_with (first | (go_at_call 26; (with_reducible refine (mod_16384 p k HK _).mono ?_); rintro e w' ⟨rfl, rfl⟩))
    go_ret
    exact ⟨rfl, rfl⟩
  · rw [if_neg hlt] at h
    have hge : (n : Int) ≤ (k : Int) := by omega
    subst h
    clear hk hv hV hlt
    go_enter Try.func17, Try.ntmps17
    go_wp2_with (first | (go_at_call 26; (with_reducible refine (mod_16384 p k HK _).mono ?_); rintro e w' ⟨rfl, rfl⟩))
    go_ret
    exact ⟨rfl, rfl⟩


end Go.Proofs.Ytcefgcoibppdaaa
