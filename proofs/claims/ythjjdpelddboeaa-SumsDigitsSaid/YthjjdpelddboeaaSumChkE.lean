/-
  Numbers of two digits, added and taken away byte by byte, and mended: by numbers. Nothing here speaks of the program.
-/
import Derived.Test.YthjjdpelddboeaaSumSpec
namespace Go.Proofs.Ythjjdpelddboeaa
open Go.RowKit

def nDig (n : Nat) : Nat := Nat.add (Nat.mul (Nat.div n 10) 16) (Nat.mod n 10)
def digB (m : Nat) (on : Bool) (v f : Nat) : Bool := and (Nat.beq (nDaaV v f) (nDig m)) (Nat.beq (Nat.land (nDaaF v f) 1) (cond on 1 0))
def upB (a b : Nat) : Bool := digB (Nat.mod (Nat.add a b) 100) (Nat.ble 100 (Nat.add a b)) (nAddV (nDig a) (nDig b) 0) (nAddF (nDig a) (nDig b) 0)
def downB (a b : Nat) : Bool := digB (Nat.mod (Nat.sub (Nat.add a 100) b) 100) (Nat.ble (Nat.add a 1) b) (nSubV (nDig a) (nDig b) 0) (nSubF (nDig a) (nDig b) 0)
theorem up_all : allB 100 (fun a => allB 100 fun b => upB a b) = true := by decide +kernel
theorem down_all : allB 100 (fun a => allB 100 fun b => downB a b) = true := by decide +kernel
theorem up_at (a b x y v f d : Nat) (on : Bool) (ha : a < 100) (hb : b < 100) (hx : nDig a = x) (hy : nDig b = y) (hv : nAddV x y 0 = v) (hf : nAddF x y 0 = f) (hd : nDig ((a + b) % 100) = d) (ho : Nat.ble 100 (a + b) = on) :
    nDaaV v f = d ∧ (nDaaF v f &&& 1) = cond on 1 0 := by
  have e := allB_at2 up_all a b ha hb
  unfold upB at e
  rw [hx, hy, hv, hf] at e
  unfold digB at e
  rw [Bool.and_eq_true, Nat.beq_eq, Nat.beq_eq] at e
  exact ⟨e.1.trans hd, e.2.trans (by rw [show Nat.ble 100 (Nat.add a b) = on from ho])⟩
theorem down_at (a b x y v f d : Nat) (on : Bool) (ha : a < 100) (hb : b < 100) (hx : nDig a = x) (hy : nDig b = y) (hv : nSubV x y 0 = v) (hf : nSubF x y 0 = f) (hd : nDig ((a + 100 - b) % 100) = d) (ho : Nat.ble (a + 1) b = on) :
    nDaaV v f = d ∧ (nDaaF v f &&& 1) = cond on 1 0 := by
  have e := allB_at2 down_all a b ha hb
  unfold downB at e
  rw [hx, hy, hv, hf] at e
  unfold digB at e
  rw [Bool.and_eq_true, Nat.beq_eq, Nat.beq_eq] at e
  exact ⟨e.1.trans hd, e.2.trans (by rw [show Nat.ble (Nat.add a 1) b = on from ho])⟩

end Go.Proofs.Ythjjdpelddboeaa
