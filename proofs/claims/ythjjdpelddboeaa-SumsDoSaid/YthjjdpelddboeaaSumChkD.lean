/-
  What the document's loop over eight bits comes to: both, just one, one; for each two bytes. Nothing here speaks of the program.
-/
import Derived.Test.YthjjdpelddboeaaSumSpec
namespace Go.Proofs.Ythjjdpelddboeaa

/-- of k bits, the highest first -/
def nLog (on : Nat → Bool) (a b : Nat) : Nat → Nat
  | 0 => 0
  | k + 1 => Nat.add (Nat.mul 2 (nLog on a b k)) (cond (on (Nat.add (Nat.mod (Nat.div a (Nat.pow 2 (Nat.sub 7 k))) 2) (Nat.mod (Nat.div b (Nat.pow 2 (Nat.sub 7 k))) 2))) 1 0)
theorem nLog_lt (on : Nat → Bool) (a b k : Nat) : nLog on a b k < 2 ^ k := by
  induction k with
  | zero => simp [nLog]
  | succ k ih =>
    have e : nLog on a b (k + 1) = 2 * nLog on a b k + (cond (on (a / 2 ^ (7 - k) % 2 + b / 2 ^ (7 - k) % 2)) 1 0) := rfl
    rw [e, Nat.pow_succ]
    cases on (a / 2 ^ (7 - k) % 2 + b / 2 ^ (7 - k) % 2) <;> simp <;> omega
def on4 (x : Nat) : Bool := Nat.beq x 2
def on5 (x : Nat) : Bool := Nat.beq x 1
def on6 (x : Nat) : Bool := Nat.ble 1 x
theorem log4 (a b : Nat) (ha : a < 256) (hb : b < 256) : nLog on4 a b 8 = a &&& b :=
  Nat.eq_of_beq_eq_true (allB_at2 (p := fun a b => Nat.beq (nLog on4 a b 8) (Nat.land a b)) (by decide +kernel) a b ha hb)
theorem log5 (a b : Nat) (ha : a < 256) (hb : b < 256) : nLog on5 a b 8 = a ^^^ b :=
  Nat.eq_of_beq_eq_true (allB_at2 (p := fun a b => Nat.beq (nLog on5 a b 8) (Nat.xor a b)) (by decide +kernel) a b ha hb)
theorem log6 (a b : Nat) (ha : a < 256) (hb : b < 256) : nLog on6 a b 8 = a ||| b :=
  Nat.eq_of_beq_eq_true (allB_at2 (p := fun a b => Nat.beq (nLog on6 a b 8) (Nat.lor a b)) (by decide +kernel) a b ha hb)

end Go.Proofs.Ythjjdpelddboeaa
