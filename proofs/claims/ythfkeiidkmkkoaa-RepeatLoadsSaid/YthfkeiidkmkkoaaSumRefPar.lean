/-
  The document's Parity, by one contract.
-/
import Derived.Test.YthfkeiidkmkkoaaSumRefS
namespace Go.Proofs.Ythfkeiidkmkkoaa
open Go.RowKit

theorem ones_step (k n : Nat) : nOnes (k + 1) n = n % 2 + nOnes k (n / 2) := rfl
theorem ones_zero (k : Nat) : nOnes k 0 = 0 := by
  induction k with
  | zero => rfl
  | succ k ih => rw [ones_step, Nat.zero_div, ih]
set_option maxRecDepth 100000 in
theorem rparity_any (v : Nat) (h : v < 256) (w : World) : Calls Try.prog 25 #[.int .u8 (v : Int)] w fun e w' => e = .returned (.bool (nPar v)) ∧ w = w' := by
  obtain ⟨p, hp⟩ : ∃ p, nOnes 8 v = p := ⟨_, rfl⟩
  have hq : nPar v = Nat.beq (Nat.mod p 2) 0 := by rw [← hp]; rfl
  rw [hq]
  have HP := Lib.hid hp
  have HV := Lib.hid h
  clear hp hq h
  go_enter Try.func25, Try.ntmps25
  go_wp2
  go_loopw [0, 3] (fun n o wr => ∃ k m j : Nat, k ≤ 8 ∧ m < 256 ∧ j + k ≤ 8 ∧ n = .int .u8 m ∧ o = .int .i64 j ∧ Hid (m < 2 ^ k ∧ j + nOnes k m = p) ∧ wr = w) (fun n _ _ => (intOf n).toNat)
  case atStart => exact ⟨8, v, 0, by omega, HV.out, by omega, rfl, rfl, ⟨HV.out, by rw [← HP.out]; omega⟩, rfl⟩
  case round =>
    obtain ⟨k, m, j, hk, hm, hj, rfl, rfl, HR, rfl⟩ := hrel
    have hm1 : (m : Int) < 256 := by omega
    have hq : ((m : Int)).tdiv 2 = (m : Int) / 2 := Int.tdiv_eq_ediv_of_nonneg (by omega)
    have hr : ((m : Int)).tmod 2 = (m : Int) % 2 := Int.tmod_eq_emod_of_nonneg (by omega)
    by_cases h0 : (m : Int) = 0
    · have e : j = p := by
        have h := HR.out.2
        obtain rfl : m = 0 := by omega
        rw [ones_zero] at h; omega
      have hj1 : (j : Int) ≤ 8 := by omega
      have hj2 : ((j : Int)).tmod 2 = (j : Int) % 2 := Int.tmod_eq_emod_of_nonneg (by omega)
      have HE := Lib.hid e
      clear HR hk hj e hm
      go_wp2
      go_ret
      refine ⟨ret_truth' ?_, rfl⟩
      rw [← HE.out, Bool.eq_iff_iff, Nat.beq_eq]
      show _ ↔ j % 2 = 0
      simp
      omega
    · have h0' : (0 : Int) < (m : Int) := by omega
      have hk0 : k ≠ 0 := by
        rintro rfl
        have := HR.out.1
        simp at this
        omega
      obtain ⟨k, rfl⟩ : ∃ k', k = k' + 1 := ⟨k - 1, by omega⟩
      have HR2 : Hid (m / 2 < 2 ^ k ∧ (j + m % 2) + nOnes k (m / 2) = p) := by
        have h := HR.out
        rw [ones_step, Nat.pow_succ] at h
        exact ⟨by omega, by omega⟩
      have hj1 : (j : Int) ≤ 8 := by omega
      have HK : Hid (k + 1 ≤ 8 ∧ j + (k + 1) ≤ 8) := ⟨hk, hj⟩
      clear HR hk hj hk0 hm h0
      go_wp2
      go_roundw
      case rel => exact ⟨k, m / 2, j + m % 2, by have := HK.out; omega, by omega, by have := HK.out; omega, by rw [Int.natCast_ediv]; rfl, by rw [Int.natCast_add, Int.natCast_emod]; rfl, HR2, trivial⟩
      case measure => simp [intOf]; omega

end Go.Proofs.Ythfkeiidkmkkoaa
