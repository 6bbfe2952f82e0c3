import Derived.Test.YtljjgakfnajifaaGreatDoorZBase
namespace Go.Proofs.YtljjgakfnajifaaGreatDoor
theorem eq_all {p q : Nat → Nat → Nat} (h : allB 256 (fun a => allB 256 fun b => Nat.beq (p a b) (q a b)) = true) (a b : Nat) (ha : a < 256) (hb : b < 256) : p a b = q a b := Nat.eq_of_beq_eq_true (allB_at2 h a b ha hb)
def cFlip0 (a f : Nat) : Nat := Nat.lor (Nat.lor (Nat.lor (Nat.lor (Nat.land f 196) (Nat.land f 1)) 16) 2) (Nat.land (Nat.sub 255 a) 40)
def cFlip1 (a f : Nat) : Nat := Nat.lor (Nat.lor (Nat.land f 196) 1) (Nat.land a 40)
def cFlip2 (a f : Nat) : Nat := Nat.lor (Nat.lor (Nat.lor (Nat.land f 196) (Nat.xor (Nat.land f 1) 1)) (cond (nBit 1 f) 16 0)) (Nat.land a 40)
theorem flip0_bits (a f : Nat) (ha : a < 256) (hf : f < 256) : cFlip0 a f = nFlipF0 a f := eq_all (by decide +kernel) a f ha hf
theorem flip1_bits (a f : Nat) (ha : a < 256) (hf : f < 256) : cFlip1 a f = nFlipF1 a f := eq_all (by decide +kernel) a f ha hf
theorem flip2_bits (a f : Nat) (ha : a < 256) (hf : f < 256) : cFlip2 a f = nFlipF2 a f := eq_all (by decide +kernel) a f ha hf
end Go.Proofs.YtljjgakfnajifaaGreatDoor
