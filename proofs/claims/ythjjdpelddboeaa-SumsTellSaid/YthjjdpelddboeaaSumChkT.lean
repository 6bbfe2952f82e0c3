/-
  What is held against another byte, for each two bytes, by numbers. Nothing here speaks of the program.
-/
import Derived.Test.YthjjdpelddboeaaSumSpec
namespace Go.Proofs.Ythjjdpelddboeaa
open Go.RowKit

def tellB (a b f x y z g v h : Nat) : Bool :=
  and (and (and (Nat.beq (Nat.land f 1) (cond (Nat.ble b a) 0 1)) (Nat.beq (Nat.land f 64) (cond (Nat.beq a b) 64 0))) (and (Nat.beq (Nat.land g 64) (cond (Nat.beq a b) 64 0)) (Nat.beq (Nat.add x y) (Nat.add a b))))
    (and (and (Nat.beq y (Nat.add x z)) (Nat.beq (Nat.land (Nat.xor h f) 215) 0)) (Nat.beq (cond (Nat.beq v 0) 1 0) (cond (Nat.beq a b) 1 0)))
theorem tell_all : allB 256 (fun a => allB 256 fun b => tellB a b (nCmp a b) (Nat.land a b) (Nat.lor a b) (Nat.xor a b) (nBitsF (Nat.xor a b) false) (nSubV a b 0) (nSubF a b 0)) = true := by decide +kernel
theorem tell_at (a b f x y z g v h : Nat) (ha : a < 256) (hb : b < 256) (hf : nCmp a b = f) (hx : a &&& b = x) (hy : a ||| b = y) (hz : a ^^^ b = z) (hg : nBitsF z false = g) (hv : nSubV a b 0 = v) (hh : nSubF a b 0 = h) :
    (f &&& 1 = if a < b then 1 else 0) ∧ (f &&& 64 = if a = b then 64 else 0) ∧ (g &&& 64 = if a = b then 64 else 0) ∧ x + y = a + b ∧ y = x + z ∧ (h ^^^ f) &&& 215 = 0 ∧ (v = 0 ↔ a = b) := by
  have e := allB_at2 tell_all a b ha hb
  have hz' : Nat.xor a b = z := hz
  have hx' : Nat.land a b = x := hx
  have hy' : Nat.lor a b = y := hy
  rw [hf, hx', hy', hz', hg, hv, hh] at e
  unfold tellB at e
  simp only [Bool.and_eq_true, Nat.beq_eq] at e
  obtain ⟨⟨⟨e1, e2⟩, e3, e4⟩, ⟨e5, e6⟩, e7⟩ := e
  have c1 : (cond (Nat.ble b a) 0 1 : Nat) = if a < b then 1 else 0 := by
    cases hq : Nat.ble b a
    · rw [if_pos (by rw [← Bool.not_eq_true, Nat.ble_eq] at hq; omega)]; rfl
    · rw [if_neg (by rw [Nat.ble_eq] at hq; omega)]; rfl
  have c2 : ∀ t : Nat, (cond (Nat.beq a b) t 0 : Nat) = if a = b then t else 0 := by
    intro t
    cases hq : Nat.beq a b
    · rw [if_neg (by rw [← Bool.not_eq_true, Nat.beq_eq] at hq; exact hq)]; rfl
    · rw [if_pos (by rw [Nat.beq_eq] at hq; exact hq)]; rfl
  have c3 : (cond (Nat.beq v 0) 1 0 : Nat) = if v = 0 then 1 else 0 := by
    cases hq : Nat.beq v 0
    · rw [if_neg (by rw [← Bool.not_eq_true, Nat.beq_eq] at hq; exact hq)]; rfl
    · rw [if_pos (by rw [Nat.beq_eq] at hq; exact hq)]; rfl
  rw [c2, c3] at e7
  refine ⟨e1.trans c1, e2.trans (c2 64), e3.trans (c2 64), e4, e5, e6, ?_⟩
  split at e7 <;> split at e7 <;> simp_all

end Go.Proofs.Ythjjdpelddboeaa
