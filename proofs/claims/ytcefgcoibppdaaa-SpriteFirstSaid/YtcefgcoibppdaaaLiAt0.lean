/-
  Colors and counts, one sprite more.
-/
import Derived.Test.YtcefgcoibppdaaaSpLine
namespace Go.Proofs.Ytcefgcoibppdaaa
open Go.RowKit

theorem spFrom_top {Y : Nat → Nat} {h : Nat} {line : Int} : ∀ k i, ∀ x ∈ spFrom Y h line k i, spTop (Y x) ≤ line
  | 0, _, x, hx => by simp [spFrom] at hx
  | k + 1, i, x, hx => by
    have hx' : x ∈ (if Y i = 208 then [] else if spIs h line (Y i) = true then i :: spFrom Y h line k (i + 1) else spFrom Y h line k (i + 1)) := hx
    split at hx'
    · simp at hx'
    · split at hx'
      · rename_i h1 h2
        rcases List.mem_cons.1 hx' with rfl | hx'
        · unfold spIs at h2; simp at h2; exact h2.1
        · exact spFrom_top k (i + 1) x hx'
      · exact spFrom_top k (i + 1) x hx'
theorem spCol_snoc (l : List Nat) (d : Nat) : spCol (l ++ [d]) = if spCnt l = 0 then (if d = 0 then 0 else 16 + d) else spCol l := by
  induction l with
  | nil => rfl
  | cons e l ih =>
    show (if e = 0 then spCol (l ++ [d]) else 16 + e) = (if (if e = 0 then spCnt l else 1 + spCnt l) = 0 then _ else (if e = 0 then spCol l else 16 + e))
    by_cases h : e = 0
    · simp only [h, if_true]; exact ih
    · simp only [h, if_false]
      rw [if_neg (by omega)]
theorem spCol_none : ∀ l : List Nat, spCnt l = 0 → spCol l = 0
  | [], _ => rfl
  | e :: l, h => by
    have h' : (if e = 0 then spCnt l else 1 + spCnt l) = 0 := h
    show (if e = 0 then spCol l else 16 + e) = 0
    by_cases c : e = 0
    · rw [if_pos c] at h' ⊢
      exact spCol_none l h'
    · rw [if_neg c] at h'
      omega
theorem spCnt_snoc (l : List Nat) (d : Nat) : spCnt (l ++ [d]) = if d = 0 then spCnt l else spCnt l + 1 := by
  induction l with
  | nil => show (if d = 0 then 0 else 1 + 0) = (if d = 0 then 0 else 0 + 1); rfl
  | cons e l ih =>
    show (if e = 0 then spCnt (l ++ [d]) else 1 + spCnt (l ++ [d])) = (if d = 0 then (if e = 0 then spCnt l else 1 + spCnt l) else (if e = 0 then spCnt l else 1 + spCnt l) + 1)
    rw [ih]
    split <;> split <;> omega

end Go.Proofs.Ytcefgcoibppdaaa
