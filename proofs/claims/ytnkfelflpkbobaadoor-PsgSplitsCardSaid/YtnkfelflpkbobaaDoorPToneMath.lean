/-
  What a tone is behind some steps, in closed form, and that one step more is one step of it. Plain numbers: nothing here speaks of the program's memory.
-/
import Derived.Test.YtnkfelflpkbobaaDoorPToneSteps
namespace Go.Proofs.YtnkfelflpkbobaaDoor.tone
open Go.RowKit

def runC (p c s : Int) : Int := if s < max c 1 then c - max s 0 else if p < 2 then 1 else p - (s - max c 1) % p
def runO (p c : Int) (o : Bool) (s : Int) : Bool := if s < max c 1 then o else if p < 2 then true else if (s - max c 1) / p % 2 = 1 then o else !o
def runN (p c s : Int) : Int := if s < max c 1 then 0 else if p < 2 then 0 else 1 + (s - max c 1) / p

theorem div_more (r p : Int) (hp : 2 ≤ p) (_hr : 0 ≤ r) : (r % p = p - 1 ∧ (r + 1) % p = 0 ∧ (r + 1) / p = r / p + 1) ∨ (r % p < p - 1 ∧ 0 ≤ r % p ∧ (r + 1) % p = r % p + 1 ∧ (r + 1) / p = r / p) := by
  have h1 := Int.emod_nonneg r (show p ≠ 0 by omega)
  have h2 := Int.emod_lt_of_pos r (show 0 < p by omega)
  have h3 := Int.emod_add_mul_ediv r p
  by_cases h : r % p = p - 1
  · left
    have : r + 1 = (r / p + 1) * p := by rw [Int.add_mul, Int.one_mul, Int.mul_comm]; omega
    exact ⟨h, by rw [this]; exact Int.mul_emod_left _ _, by rw [this]; exact Int.mul_ediv_cancel _ (by omega)⟩
  · right
    have : r + 1 = (r % p + 1) + p * (r / p) := by omega
    refine ⟨by omega, h1, ?_, ?_⟩
    · rw [this, Int.add_mul_emod_self_left]; exact Int.emod_eq_of_lt (by omega) (by omega)
    · rw [this, Int.add_mul_ediv_left _ _ (by omega), Int.ediv_eq_zero_of_lt (by omega) (by omega)]; omega

theorem run_next (p c : Int) (o : Bool) (s : Int) (hp : 0 ≤ p) (hc : 0 ≤ c) (hs : 0 ≤ s) :
    runC p c (s + 1) = nextC p (runC p c s) ∧ runO p c o (s + 1) = nextO p (runC p c s) (runO p c o s) ∧ runN p c (s + 1) = runN p c s + (if turns p (runC p c s) = true then 1 else 0) := by
  unfold runC runO runN nextC nextO turns
  simp only [decide_eq_true_eq]
  by_cases h1 : s + 1 < max c 1
  · have h2 : s < max c 1 := by omega
    have h3 : 1 < c - max s 0 := by omega
    simp only [if_pos h1, if_pos h2, if_pos h3]
    exact ⟨by omega, trivial, by rw [if_neg (by omega)]; omega⟩
  · by_cases h2 : s < max c 1
    · have h3 : s + 1 - max c 1 = 0 := by omega
      have h5 : ¬ 1 < c - max s 0 := by omega
      simp only [if_neg h1, if_pos h2, if_neg h5, h3]
      by_cases h4 : p < 2
      · simp only [if_pos h4]
        exact ⟨by split <;> omega, trivial, by rw [if_neg (by omega)]; omega⟩
      · have h6 : ¬ p = 0 := by omega
        have h7 : c - max s 0 ≤ 1 ∧ 2 ≤ p := ⟨by omega, by omega⟩
        simp [if_neg h4, if_neg h6, h7]
    · by_cases h4 : p < 2
      · have h5 : ¬ ((1 : Int) ≤ 1 ∧ 2 ≤ p) := by omega
        simp only [if_neg h1, if_neg h2, if_pos h4, if_neg h5]
        exact ⟨by (repeat' split) <;> omega, by split <;> rfl, by omega⟩
      · simp only [if_neg h1, if_neg h2, if_neg h4]
        have hr : s + 1 - max c 1 = (s - max c 1) + 1 := by omega
        rw [hr]
        obtain ⟨r, hr⟩ : ∃ r, r = s - max c 1 := ⟨_, rfl⟩
        rw [← hr]
        have h6 : ¬ p = 0 := by omega
        rcases div_more r p (by omega) (by omega) with ⟨a1, a2, a3⟩ | ⟨a1, a2, a3, a4⟩
        · rw [a1, a2, a3]
          have h5 : ¬ 1 < p - (p - 1) := by omega
          have h7 : p - (p - 1) ≤ 1 ∧ 2 ≤ p := by omega
          simp only [if_neg h5, if_pos h7, if_neg h6]
          refine ⟨by omega, ?_, by omega⟩
          by_cases hm : r / p % 2 = 1
          · have hm' : ¬ (r / p + 1) % 2 = 1 := by omega
            simp only [if_pos hm, if_neg hm']
          · have hm' : (r / p + 1) % 2 = 1 := by omega
            simp only [if_neg hm, if_pos hm', Bool.not_not]
        · rw [a3, a4]
          have h5 : 1 < p - r % p := by omega
          have h7 : ¬ (p - r % p ≤ 1 ∧ 2 ≤ p) := by omega
          simp only [if_pos h5, if_neg h7]
          exact ⟨by omega, trivial, by omega⟩

theorem run_zero (p c : Int) (o : Bool) (s : Int) (hs : s ≤ 0) : runC p c s = c ∧ runO p c o s = o ∧ runN p c s = 0 := by
  unfold runC runO runN
  rw [if_pos (by omega), if_pos (by omega), if_pos (by omega)]
  exact ⟨by omega, rfl, rfl⟩

theorem runC_bd (p c s : Int) (hp : 0 ≤ p) (hp2 : p ≤ 1023) (hc : 0 ≤ c) (hc2 : c ≤ 1023) : 0 ≤ runC p c s ∧ runC p c s ≤ 1023 := by
  unfold runC
  split
  · omega
  · split
    · omega
    · have h1 := Int.emod_nonneg (s - max c 1) (show p ≠ 0 by omega)
      have h2 := Int.emod_lt_of_pos (s - max c 1) (show 0 < p by omega)
      omega
theorem runN_bd (p c s : Int) (hs : 0 ≤ s) : 0 ≤ runN p c s ∧ runN p c s ≤ s := by
  unfold runN
  split
  · omega
  · split
    · omega
    · have h1 := Int.ediv_nonneg (show 0 ≤ s - max c 1 by omega) (show 0 ≤ p by omega)
      have h2 : (s - max c 1) / p ≤ s - max c 1 := Int.ediv_le_self _ (by omega)
      omega

end Go.Proofs.YtnkfelflpkbobaaDoor.tone
