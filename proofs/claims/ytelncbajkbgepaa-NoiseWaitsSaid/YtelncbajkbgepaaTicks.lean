/-
  A count that goes down to one and begins again: what it is behind some steps, and how often it began again. Plain numbers: nothing here speaks of the program.
-/
import Derived.Test.YtelncbajkbgepaaWords
namespace Go.Proofs.Ytelncbajkbgepaa

/-- the count behind k steps, and how often it began again, of a period p from 2 on -/
def tc (p c k : Int) : Int := if k < max c 1 then c - k else p - (k - max c 1) % p
def tn (p c k : Int) : Int := if k < max c 1 then 0 else 1 + (k - max c 1) / p

theorem div_step (r p : Int) (hp : 2 ≤ p) (_hr : 0 ≤ r) : (r % p = p - 1 ∧ (r + 1) % p = 0 ∧ (r + 1) / p = r / p + 1) ∨ (r % p < p - 1 ∧ 0 ≤ r % p ∧ (r + 1) % p = r % p + 1 ∧ (r + 1) / p = r / p) := by
  have h1 := Int.emod_nonneg r (show p ≠ 0 by omega)
  have h2 := Int.emod_lt_of_pos r (show 0 < p by omega)
  have h3 := Int.emod_add_mul_ediv r p
  by_cases h : r % p = p - 1
  · left
    have : r + 1 = (r / p + 1) * p := by rw [Int.add_mul, Int.one_mul, Int.mul_comm]; omega
    exact ⟨h, by rw [this]; exact Int.mul_emod_left _ _, by rw [this]; exact Int.mul_ediv_cancel _ (by omega)⟩
  · right
    have : r + 1 = (r % p + 1) + p * (r / p) := by omega
    refine ⟨by omega, h1, ?_, ?_⟩
    · rw [this, Int.add_mul_emod_self_left]; exact Int.emod_eq_of_lt (by omega) (by omega)
    · rw [this, Int.add_mul_ediv_left _ _ (by omega), Int.ediv_eq_zero_of_lt (by omega) (by omega)]; omega

theorem tc_next (p c k : Int) (hp : 2 ≤ p) (_hc : 0 ≤ c) (hk : 0 ≤ k) :
    (1 < tc p c k ∧ tc p c (k + 1) = tc p c k - 1 ∧ tn p c (k + 1) = tn p c k) ∨ (tc p c k ≤ 1 ∧ tc p c (k + 1) = p ∧ tn p c (k + 1) = tn p c k + 1) := by
  unfold tc tn
  by_cases h1 : k + 1 < max c 1
  · left
    rw [if_pos (show k < max c 1 by omega), if_pos h1, if_pos h1, if_pos (show k < max c 1 by omega)]
    exact ⟨by omega, by omega, rfl⟩
  · by_cases h2 : k < max c 1
    · right
      have h3 : k + 1 - max c 1 = 0 := by omega
      rw [if_pos h2, if_neg h1, if_neg h1, if_pos h2, h3]
      exact ⟨by omega, by simp, by simp⟩
    · rw [if_neg h2, if_neg h1, if_neg h1, if_neg h2]
      have hr : k + 1 - max c 1 = (k - max c 1) + 1 := by omega
      rw [hr]
      obtain ⟨r, hr⟩ : ∃ r, r = k - max c 1 := ⟨_, rfl⟩
      rw [← hr]
      rcases div_step r p hp (by omega) with ⟨a1, a2, a3⟩ | ⟨a1, a2, a3, a4⟩
      · right; rw [a1, a2, a3]; exact ⟨by omega, by omega, by omega⟩
      · left; rw [a3, a4]; exact ⟨by omega, by omega, rfl⟩
theorem tc_zero (p c : Int) (_hc : 0 ≤ c) : tc p c 0 = c ∧ tn p c 0 = 0 := by
  unfold tc tn
  rw [if_pos (by omega), if_pos (by omega)]
  exact ⟨by omega, rfl⟩
theorem tc_bd (p c k b : Int) (hp : 2 ≤ p) (hpb : p ≤ b) (hc : 0 ≤ c) (hcb : c ≤ b) (hk : 0 ≤ k) : 0 ≤ tc p c k ∧ tc p c k ≤ b := by
  unfold tc
  split
  · omega
  · have h1 := Int.emod_nonneg (k - max c 1) (show p ≠ 0 by omega)
    have h2 := Int.emod_lt_of_pos (k - max c 1) (show 0 < p by omega)
    omega
theorem tn_bd (p c k : Int) (hp : 2 ≤ p) (_hk : 0 ≤ k) : 0 ≤ tn p c k ∧ tn p c k ≤ max k 0 := by
  unfold tn
  split
  · omega
  · have h1 := Int.ediv_nonneg (show 0 ≤ k - max c 1 by omega) (show 0 ≤ p by omega)
    have h2 : (k - max c 1) / p ≤ k - max c 1 := Int.ediv_le_self _ (by omega)
    omega

/-- of two that turn about in turn: which it is, and how often it went up -/
def halfAt (h : Bool) (t : Int) : Bool := h != decide (t % 2 = 1)
def upsAt (h : Bool) (t : Int) : Int := (t + if h = true then 0 else 1) / 2
theorem half_next (h : Bool) (t : Int) (_ht : 0 ≤ t) : halfAt h (t + 1) = !halfAt h t ∧ upsAt h (t + 1) = upsAt h t + (if halfAt h t = true then 0 else 1) := by
  unfold halfAt upsAt
  by_cases ho : t % 2 = 1
  · have ho' : ¬ (t + 1) % 2 = 1 := by omega
    cases h <;> simp [ho, ho'] <;> omega
  · have ho' : (t + 1) % 2 = 1 := by omega
    cases h <;> simp [ho, ho'] <;> omega

end Go.Proofs.Ytelncbajkbgepaa
