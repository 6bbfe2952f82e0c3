/-
  Sprites as functions: how high, where the table is, which are on a line.
-/
import Derived.Test.YtcefgcoibppdaaaVram
namespace Go.Proofs.Ytcefgcoibppdaaa
open Go.RowKit

/-- the byte at any place -/
def mem (n : Nat) (xs : Nat → Nat) (a : Nat) : Nat := vget n xs (a % 16384)
def spBase (r5 : Nat) : Nat := 128 * (r5 / 2 % 64 * 2)
def spH (r1 : Nat) : Nat := 8 * (1 + r1 / 2 % 2) * (1 + r1 % 2)
def spTop (y : Nat) : Int := if 240 < y + 1 then (y : Int) + 1 - 256 else (y : Int) + 1
def spIs (h : Nat) (line : Int) (y : Nat) : Bool := decide (spTop y ≤ line) && decide (line < spTop y + h)
/-- from the i-th on, k of them -/
def spFrom (Y : Nat → Nat) (h : Nat) (line : Int) : Nat → Nat → List Nat
  | 0, _ => []
  | k + 1, i => if Y i = 208 then [] else if spIs h line (Y i) = true then i :: spFrom Y h line k (i + 1) else spFrom Y h line k (i + 1)
def spAll (Y : Nat → Nat) (h : Nat) (line : Int) : List Nat := spFrom Y h line 64 0
def spY (n : Nat) (xs : Nat → Nat) (r5 i : Nat) : Nat := mem n xs (spBase r5 + i)
theorem spFrom_le (Y : Nat → Nat) (h : Nat) (line : Int) : ∀ k i, (spFrom Y h line k i).length ≤ k
  | 0, _ => by simp [spFrom]
  | k + 1, i => by
    have := spFrom_le Y h line k (i + 1)
    unfold spFrom
    split
    · simp
    · split
      · simp; omega
      · omega
theorem spFrom_lt (Y : Nat → Nat) (h : Nat) (line : Int) : ∀ k i, ∀ x ∈ spFrom Y h line k i, i ≤ x ∧ x < i + k
  | 0, i, x, hx => by simp [spFrom] at hx
  | k + 1, i, x, hx => by
    unfold spFrom at hx
    split at hx
    · simp at hx
    · split at hx
      · rcases List.mem_cons.1 hx with rfl | hx
        · omega
        · have := spFrom_lt Y h line k (i + 1) x hx; omega
      · have := spFrom_lt Y h line k (i + 1) x hx; omega
theorem spH_le (r1 : Nat) : 8 ≤ spH r1 ∧ spH r1 ≤ 32 := by
  unfold spH
  have h1 : r1 / 2 % 2 = 0 ∨ r1 / 2 % 2 = 1 := by omega
  have h2 : r1 % 2 = 0 ∨ r1 % 2 = 1 := by omega
  rcases h1 with h1 | h1 <;> rcases h2 with h2 | h2 <;> rw [h1, h2] <;> decide
theorem spBase_le (r5 : Nat) : spBase r5 ≤ 16128 := by unfold spBase; omega

end Go.Proofs.Ytcefgcoibppdaaa
