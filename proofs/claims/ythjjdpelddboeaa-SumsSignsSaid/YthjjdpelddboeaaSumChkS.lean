/-
  The sign and the overflow together, and parities, for each two bytes, by numbers. Nothing here speaks of the program.
-/
import Derived.Test.YthjjdpelddboeaaSumSpec
namespace Go.Proofs.Ythjjdpelddboeaa
open Go.RowKit

def sameB (p q : Bool) : Bool := cond p q (not q)
def signB (a b f g : Nat) : Bool :=
  and (and (sameB (xor (nBit 128 f) (nBit 4 f)) (Nat.ble (Nat.add (nHalf a) 1) (nHalf b))) (sameB (xor (nBit 128 g) (nBit 4 g)) (Nat.ble (Nat.add (Nat.add (nHalf a) (nHalf b)) 1) 256)))
    (sameB (nPar (Nat.xor a b)) (sameB (nPar a) (nPar b)))
theorem sign_all : allB 256 (fun a => allB 256 fun b => signB a b (nCmp a b) (nAddF a b 0)) = true := by decide +kernel
theorem same_eq (p q : Bool) (h : sameB p q = true) : p = q := by cases p <;> cases q <;> first | rfl | cases h
theorem sameB_eq (p q : Bool) : sameB p q = (p == q) := by cases p <;> cases q <;> rfl
theorem sign_at (a b f g : Nat) (ha : a < 256) (hb : b < 256) (hf : nCmp a b = f) (hg : nAddF a b 0 = g) :
    xor (nBit 128 f) (nBit 4 f) = Nat.ble ((a + 128) % 256 + 1) ((b + 128) % 256) ∧ xor (nBit 128 g) (nBit 4 g) = Nat.ble ((a + 128) % 256 + (b + 128) % 256 + 1) 256 ∧ nPar (a ^^^ b) = (nPar a == nPar b) := by
  have e := allB_at2 sign_all a b ha hb
  rw [hf, hg] at e
  unfold signB at e
  rw [Bool.and_eq_true, Bool.and_eq_true] at e
  exact ⟨same_eq _ _ e.1.1, same_eq _ _ e.1.2, (same_eq _ _ e.2).trans (sameB_eq _ _)⟩
theorem bit128_of (f : Nat) (h : f < 256) : (f &&& 128 = 0 ∧ nBit 128 f = false) ∨ (f &&& 128 = 128 ∧ nBit 128 f = true) := by
  have h := allB_at (p := fun f => or (and (Nat.beq (Nat.land f 128) 0) (not (nBit 128 f))) (and (Nat.beq (Nat.land f 128) 128) (nBit 128 f))) (n := 256) (by decide +kernel) f h
  simp only [Bool.or_eq_true, Bool.and_eq_true, Nat.beq_eq, Bool.not_eq_true'] at h
  exact h
theorem bit4_of (f : Nat) (h : f < 256) : (f &&& 4 = 0 ∧ nBit 4 f = false) ∨ (f &&& 4 = 4 ∧ nBit 4 f = true) := by
  have h := allB_at (p := fun f => or (and (Nat.beq (Nat.land f 4) 0) (not (nBit 4 f))) (and (Nat.beq (Nat.land f 4) 4) (nBit 4 f))) (n := 256) (by decide +kernel) f h
  simp only [Bool.or_eq_true, Bool.and_eq_true, Nat.beq_eq, Bool.not_eq_true'] at h
  exact h

end Go.Proofs.Ythjjdpelddboeaa
