/-
  What steps over many bytes say, as numbers: each by one function over natural numbers. Nothing here speaks of the program.
-/
import Derived.Test.YthfkeiidkmkkoaaSumSpec
namespace Go.Proofs.Ythfkeiidkmkkoaa
open Go.RowKit

/-- FlagY and FlagX of a number's bits 1 and 3 -/
def rYX (n : Nat) : Nat := Nat.add (cond (nBit 2 n) 32 0) (cond (nBit 8 n) 8 0)
def rSum (a v : Nat) : Nat := Nat.mod (Nat.add a v) 256
def rLoad (a v f : Nat) (p : Bool) : Nat := nByte (nBit 128 f) (nBit 64 f) (nBit 2 (rSum a v)) false (nBit 8 (rSum a v)) p false (nBit 1 f)
def rLess (m : Nat) (h : Bool) : Nat := cond h (Nat.mod (Nat.add m 255) 256) m
def rSeek (g n f : Nat) (p : Bool) : Nat := nByte (nBit 128 g) (nBit 64 g) (nBit 2 n) (nBit 16 g) (nBit 8 n) p true (nBit 1 f)
def rOn (g : Nat) (p : Bool) : Bool := and p (not (nBit 64 g))
def rSeekF (a v f : Nat) (p : Bool) : Nat := rSeek (nSubF a v 0) (rLess (nSubV a v 0) (nBit 16 (nSubF a v 0))) f p
def rSeekOn (a v : Nat) (p : Bool) : Bool := and p (not (Nat.beq a v))
def rPort (v m b : Nat) : Nat := nByte (nS b) (nZ b) (nBit 32 b) (Nat.ble 256 (Nat.add v m)) (nBit 8 b) (nPar (Nat.xor b (Nat.mod (Nat.add v m) 8))) (nBit 128 v) (Nat.ble 256 (Nat.add v m))

theorem rYX_lt (n : Nat) : rYX n < 256 := by unfold rYX; cases nBit 2 n <;> cases nBit 8 n <;> decide
theorem rSum_lt (a v : Nat) : rSum a v < 256 := Nat.mod_lt _ (by omega)
theorem rLoad_lt (a v f : Nat) (p : Bool) : rLoad a v f p < 256 := nByte_lt _ _ _ _ _ _ _ _
theorem rSeek_lt (g n f : Nat) (p : Bool) : rSeek g n f p < 256 := nByte_lt _ _ _ _ _ _ _ _
theorem rPort_lt (v m b : Nat) : rPort v m b < 256 := nByte_lt _ _ _ _ _ _ _ _
theorem rLess_lt (m : Nat) (h : Bool) (hm : m < 256) : rLess m h < 256 := by cases h; exact hm; exact Nat.mod_lt _ (by omega)

/-- a number's bits one by one -/
theorem nBit_byte (s z y h x p n c : Bool) : nBit 128 (nByte s z y h x p n c) = s ∧ nBit 64 (nByte s z y h x p n c) = z ∧ nBit 16 (nByte s z y h x p n c) = h ∧ nBit 4 (nByte s z y h x p n c) = p ∧ nBit 2 (nByte s z y h x p n c) = n ∧ nBit 1 (nByte s z y h x p n c) = c := by
  revert s z y h x p n c; decide +kernel
theorem and_byte (s z y h x p n c : Bool) : nByte s z y h x p n c &&& 64 = cond z 64 0 ∧ nByte s z y h x p n c &&& 4 = cond p 4 0 ∧ nByte s z y h x p n c &&& 16 = cond h 16 0 ∧ nByte s z y h x p n c &&& 1 = cond c 1 0 ∧ nByte s z y h x p n c &&& 2 = cond n 2 0 ∧ nByte s z y h x p n c &&& 18 = (cond h 16 0) + (cond n 2 0) ∧ nByte s z y h x p n c &&& 193 = cond s 128 0 + (cond z 64 0 + cond c 1 0) ∧ nByte s z y h x p n c &&& 68 = cond z 64 0 + cond p 4 0 := by
  revert s z y h x p n c; decide +kernel
theorem and_1 (f : Nat) (h : f < 256) : f &&& 1 = cond (nBit 1 f) 1 0 := Nat.eq_of_beq_eq_true (allB_at (show allB 256 (fun f => Nat.beq (Nat.land f 1) (cond (nBit 1 f) 1 0)) = true by decide +kernel) f h)
theorem and_193 (f : Nat) (h : f < 256) : f &&& 193 = cond (nBit 128 f) 128 0 + (cond (nBit 64 f) 64 0 + cond (nBit 1 f) 1 0) := Nat.eq_of_beq_eq_true (allB_at (show allB 256 (fun f => Nat.beq (Nat.land f 193) (Nat.add (cond (nBit 128 f) 128 0) (Nat.add (cond (nBit 64 f) 64 0) (cond (nBit 1 f) 1 0)))) = true by decide +kernel) f h)
theorem and_16 (f : Nat) (h : f < 256) : f &&& 16 = cond (nBit 16 f) 16 0 := Nat.eq_of_beq_eq_true (allB_at (show allB 256 (fun f => Nat.beq (Nat.land f 16) (cond (nBit 16 f) 16 0)) = true by decide +kernel) f h)
theorem and_128 (f : Nat) (h : f < 256) : f &&& 128 = cond (nBit 128 f) 128 0 := Nat.eq_of_beq_eq_true (allB_at (show allB 256 (fun f => Nat.beq (Nat.land f 128) (cond (nBit 128 f) 128 0)) = true by decide +kernel) f h)
theorem and_8 (f : Nat) (h : f < 256) : f &&& 8 = cond (nBit 8 f) 8 0 := Nat.eq_of_beq_eq_true (allB_at (show allB 256 (fun f => Nat.beq (Nat.land f 8) (cond (nBit 8 f) 8 0)) = true by decide +kernel) f h)
theorem and_2 (f : Nat) (h : f < 256) : f &&& 2 = cond (nBit 2 f) 2 0 := Nat.eq_of_beq_eq_true (allB_at (show allB 256 (fun f => Nat.beq (Nat.land f 2) (cond (nBit 2 f) 2 0)) = true by decide +kernel) f h)

theorem stray_is (n : Nat) (h : n < 256) : ((n &&& 2) * 16) ||| (n &&& 8) = rYX n := by
  rw [and_2 n h, and_8 n h]; unfold rYX
  cases nBit 2 n <;> cases nBit 8 n <;> rfl
theorem load_is (f n : Nat) (p : Bool) (hf : f < 256) : ((f &&& 193) ||| cond p 4 0) ||| rYX n = nByte (nBit 128 f) (nBit 64 f) (nBit 2 n) false (nBit 8 n) p false (nBit 1 f) := by
  rw [and_193 f hf]; unfold rYX
  cases nBit 128 f <;> cases nBit 64 f <;> cases nBit 1 f <;> cases nBit 2 n <;> cases nBit 8 n <;> cases p <;> rfl
theorem and_210 (f : Nat) (h : f < 256) : f &&& 210 = cond (nBit 128 f) 128 0 + (cond (nBit 64 f) 64 0 + (cond (nBit 16 f) 16 0 + cond (nBit 2 f) 2 0)) := Nat.eq_of_beq_eq_true (allB_at (show allB 256 (fun f => Nat.beq (Nat.land f 210) (Nat.add (cond (nBit 128 f) 128 0) (Nat.add (cond (nBit 64 f) 64 0) (Nat.add (cond (nBit 16 f) 16 0) (cond (nBit 2 f) 2 0))))) = true by decide +kernel) f h)
theorem seek_is (g n f : Nat) (p : Bool) (hg : g < 256) (hf : f < 256) (hN : nBit 2 g = true) : (((g &&& 210) ||| (f &&& 1)) ||| cond p 4 0) ||| rYX n = rSeek g n f p := by
  rw [and_210 g hg, and_1 f hf, hN]; unfold rYX rSeek
  cases nBit 128 g <;> cases nBit 64 g <;> cases nBit 16 g <;> cases nBit 1 f <;> cases nBit 2 n <;> cases nBit 8 n <;> cases p <;> rfl
theorem half_is (g : Nat) (hg : g < 256) : ((g &&& 210) &&& 16) / 16 = cond (nBit 16 g) 1 0 := Nat.eq_of_beq_eq_true (allB_at (show allB 256 (fun f => Nat.beq (Nat.div (Nat.land (Nat.land f 210) 16) 16) (cond (nBit 16 f) 1 0)) = true by decide +kernel) g hg)
theorem on_is (g n f : Nat) (p : Bool) : ((rSeek g n f p &&& 68 : Nat) : Int) = 4 ↔ rOn g p = true := by
  rw [show rSeek g n f p &&& 68 = _ from (and_byte _ _ _ _ _ _ _ _).2.2.2.2.2.2.2]
  unfold rOn
  cases nBit 64 g <;> cases p <;> decide
theorem port_is (v m b : Nat) (hv : v < 256) (k e : Bool) (hk : Nat.ble 256 (Nat.add v m) = k) (he : nPar (Nat.xor b (Nat.mod (Nat.add v m) 8)) = e) : (((nShape b ||| ((v &&& 128) / 64)) ||| cond k 17 0) ||| cond e 4 0) = rPort v m b := by
  rw [and_128 v hv]; unfold rPort nShape
  rw [hk, he]
  cases nBit 128 v <;> cases nS b <;> cases nZ b <;> cases nBit 32 b <;> cases nBit 8 b <;> cases k <;> cases e <;> rfl

/-- what layer 6's Sub says of two bytes without a carry -/
theorem sub_n (a v c : Nat) : nBit 2 (nSubF a v c) = true := (nBit_byte _ _ _ _ _ _ _ _).2.2.2.2.1
theorem sub_z (a v : Nat) (ha : a < 256) (hv : v < 256) : nBit 64 (nSubF a v 0) = Nat.beq a v := by
  rw [show nBit 64 (nSubF a v 0) = nZ (nSubV a v 0) from (nBit_byte _ _ _ _ _ _ _ _).2.1]
  unfold nZ
  rw [Bool.eq_iff_iff, Nat.beq_eq, Nat.beq_eq]
  show (a + 512 - (v + 0)) % 256 = 0 ↔ _
  omega
theorem rOn_is (a v : Nat) (p : Bool) (ha : a < 256) (hv : v < 256) : rOn (nSubF a v 0) p = rSeekOn a v p := by unfold rOn rSeekOn; rw [sub_z a v ha hv]
theorem rSeekF_lt (a v f : Nat) (p : Bool) : rSeekF a v f p < 256 := rSeek_lt _ _ _ _
/-- what came, less one more, if it has FlagH -/
theorem less_is (m : Nat) (h : Bool) (hm : m < 256) : ((m : Int) - ((cond h 1 0 : Nat) : Int)) % 256 = ((rLess m h : Nat) : Int) := by
  cases h
  · show ((m : Int) - 0) % 256 = (m : Int); omega
  · show ((m : Int) - 1) % 256 = (((m + 255) % 256 : Nat) : Int); omega

end Go.Proofs.Ythfkeiidkmkkoaa
