import Derived.Test.YtljjgakfnajifaaGreatDoorZBase
namespace Go.Proofs.YtljjgakfnajifaaGreatDoor
def cAddFof (v a b c : Nat) : Nat :=
  Nat.lor (Nat.lor (Nat.lor (nShape v) (Nat.land (Nat.div (Nat.add (Nat.add a b) c) 256) 1)) (Nat.land (Nat.xor (Nat.xor a b) v) 16)) (Nat.land (Nat.div (Nat.land (Nat.xor a v) (Nat.xor b v)) 32) 4)
def cAddF (a b c : Nat) : Nat := cAddFof (nAddV a b c) a b c
theorem add_all : allB 256 (fun a => allB 256 fun b => and (Nat.beq (cAddF a b 0) (nAddF a b 0)) (Nat.beq (cAddF a b 1) (nAddF a b 1))) = true := by decide +kernel
theorem add_bits (a b c : Nat) (ha : a < 256) (hb : b < 256) (hc : c ≤ 1) : cAddF a b c = nAddF a b c := by
  have h := allB_at2 add_all a b ha hb
  rw [Bool.and_eq_true] at h
  rcases (show c = 0 ∨ c = 1 by omega) with rfl | rfl
  · exact Nat.eq_of_beq_eq_true h.1
  · exact Nat.eq_of_beq_eq_true h.2
end Go.Proofs.YtljjgakfnajifaaGreatDoor
