import Derived.Test.YtljjgakfnajifaaGreatDoorZBase
namespace Go.Proofs.YtljjgakfnajifaaGreatDoor
def cDaaOf (v a f : Nat) : Nat := Nat.lor (Nat.lor (Nat.lor (nBitsF v false) (Nat.land f 2)) (cond (nHigh a f) 1 0)) (Nat.land (Nat.xor a v) 16)
def cDaa (a f : Nat) : Nat := cDaaOf (nDaaV a f) a f
theorem daa_bits (a f : Nat) (ha : a < 256) (hf : f < 256) : cDaa a f = nDaaF a f :=
  Nat.eq_of_beq_eq_true (allB_at2 (p := fun a f => Nat.beq (cDaa a f) (nDaaF a f)) (by decide +kernel) a f ha hf)
end Go.Proofs.YtljjgakfnajifaaGreatDoor
