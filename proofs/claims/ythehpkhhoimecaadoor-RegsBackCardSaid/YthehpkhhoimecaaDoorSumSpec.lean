/-
  The sums of bytes by numbers below 256: each by one function over natural numbers, and flags as a number. Nothing here speaks of the program.
-/
import Derived.Test.YthehpkhhoimecaaDoorWords
namespace Go.Proofs.YthehpkhhoimecaaDoor
open Go.RowKit

/-- p holds of all that is below n -/
def allB : Nat → (Nat → Bool) → Bool
  | 0, _ => true
  | n + 1, p => (p n).and (allB n p)
theorem allB_at {n : Nat} {p : Nat → Bool} (h : allB n p = true) (k : Nat) (hk : k < n) : p k = true := by
  induction n with
  | zero => omega
  | succ n ih =>
    simp only [allB, Bool.and_eq_true] at h
    by_cases e : k = n
    · subst e; exact h.1
    · exact ih h.2 (by omega)
theorem allB_at2 {n m : Nat} {p : Nat → Nat → Bool} (h : allB n (fun a => allB m (p a)) = true) (a b : Nat) (ha : a < n) (hb : b < m) : p a b = true := allB_at (allB_at h a ha) b hb

/-- eight flags as a number -/
def nByte (s z y h x p n c : Bool) : Nat :=
  Nat.add (cond s 128 0) (Nat.add (cond z 64 0) (Nat.add (cond y 32 0) (Nat.add (cond h 16 0) (Nat.add (cond x 8 0) (Nat.add (cond p 4 0) (Nat.add (cond n 2 0) (cond c 1 0)))))))
def nS (v : Nat) : Bool := Nat.ble 128 v
def nZ (v : Nat) : Bool := Nat.beq v 0
/-- is this bit (by its worth) there? -/
def nBit (k v : Nat) : Bool := Nat.beq (Nat.mod (Nat.div v k) 2) 1
def nOnes : Nat → Nat → Nat
  | 0, _ => 0
  | k + 1, v => Nat.add (Nat.mod v 2) (nOnes k (Nat.div v 2))
def nPar (v : Nat) : Bool := Nat.beq (Nat.mod (nOnes 8 v) 2) 0
def nShape (v : Nat) : Nat := nByte (nS v) (nZ v) (nBit 32 v) false (nBit 8 v) false false false
def nOver (t : Nat) : Bool := not (and (Nat.ble 128 t) (Nat.ble t 383))
def nHalf (a : Nat) : Nat := Nat.mod (Nat.add a 128) 256
def nAddV (a b c : Nat) : Nat := Nat.mod (Nat.add (Nat.add a b) c) 256
def nAddFof (v a b c : Nat) : Nat :=
  nByte (nS v) (nZ v) (nBit 32 v) (Nat.ble 16 (Nat.add (Nat.add (Nat.mod a 16) (Nat.mod b 16)) c)) (nBit 8 v) (nOver (Nat.add (Nat.add (nHalf a) (nHalf b)) c)) false (Nat.ble 256 (Nat.add (Nat.add a b) c))
def nAddF (a b c : Nat) : Nat := nAddFof (nAddV a b c) a b c
def nSubV (a b c : Nat) : Nat := Nat.mod (Nat.sub (Nat.add a 512) (Nat.add b c)) 256
def nSubFof (v a b c : Nat) : Nat :=
  nByte (nS v) (nZ v) (nBit 32 v) (Nat.ble (Nat.add (Nat.mod a 16) 1) (Nat.add (Nat.mod b 16) c)) (nBit 8 v) (nOver (Nat.sub (Nat.add (nHalf a) 256) (Nat.add (nHalf b) c))) true (Nat.ble (Nat.add a 1) (Nat.add b c))
def nSubF (a b c : Nat) : Nat := nSubFof (nSubV a b c) a b c
/-- the flags of what came bit by bit -/
def nBitsF (v : Nat) (h : Bool) : Nat := nByte (nS v) (nZ v) (nBit 32 v) h (nBit 8 v) (nPar v) false false
def nCmp (a b : Nat) : Nat := Nat.lor (Nat.land (nSubF a b 0) 215) (Nat.land b 40)
/-- the flags, with another carry -/
def nKeep (f g : Nat) : Nat := Nat.lor (Nat.land f 254) (Nat.land g 1)
def nLow (a f : Nat) : Bool := or (nBit 16 f) (Nat.ble 10 (Nat.mod a 16))
def nHigh (a f : Nat) : Bool := or (nBit 1 f) (Nat.ble 154 a)
def nDaaV (a f : Nat) : Nat :=
  cond (nBit 2 f) (Nat.mod (Nat.sub (Nat.add a 512) (Nat.add (cond (nLow a f) 6 0) (cond (nHigh a f) 96 0))) 256) (Nat.mod (Nat.add (Nat.add a (cond (nLow a f) 6 0)) (cond (nHigh a f) 96 0)) 256)
def nDaaFof (v a f : Nat) : Nat :=
  nByte (nS v) (nZ v) (nBit 32 v) (xor (nBit 16 a) (nBit 16 v)) (nBit 8 v) (nPar v) (nBit 2 f) (nHigh a f)
def nDaaF (a f : Nat) : Nat := nDaaFof (nDaaV a f) a f
def nFlipV (k a : Nat) : Nat := cond (Nat.beq k 0) (Nat.sub 255 a) a
def nFlipF0 (a f : Nat) : Nat := nByte (nBit 128 f) (nBit 64 f) (nBit 32 (Nat.sub 255 a)) true (nBit 8 (Nat.sub 255 a)) (nBit 4 f) true (nBit 1 f)
def nFlipF1 (a f : Nat) : Nat := nByte (nBit 128 f) (nBit 64 f) (nBit 32 a) false (nBit 8 a) (nBit 4 f) false true
def nFlipF2 (a f : Nat) : Nat := nByte (nBit 128 f) (nBit 64 f) (nBit 32 a) (nBit 1 f) (nBit 8 a) (nBit 4 f) false (not (nBit 1 f))

theorem nByte_lt (s z y h x p n c : Bool) : nByte s z y h x p n c < 256 := by
  cases s <;> cases z <;> cases y <;> cases h <;> cases x <;> cases p <;> cases n <;> cases c <;> decide
theorem nAddV_lt (a b c : Nat) : nAddV a b c < 256 := Nat.mod_lt _ (by omega)
theorem nAddF_lt (a b c : Nat) : nAddF a b c < 256 := nByte_lt _ _ _ _ _ _ _ _
theorem nSubV_lt (a b c : Nat) : nSubV a b c < 256 := Nat.mod_lt _ (by omega)
theorem nSubF_lt (a b c : Nat) : nSubF a b c < 256 := nByte_lt _ _ _ _ _ _ _ _
theorem nBitsF_lt (v : Nat) (h : Bool) : nBitsF v h < 256 := nByte_lt _ _ _ _ _ _ _ _
theorem and8 {a b : Nat} (h : a < 256) : a &&& b < 256 := Nat.lt_of_le_of_lt Nat.and_le_left h
theorem and8' {a b : Nat} (h : b < 256) : a &&& b < 256 := Nat.lt_of_le_of_lt Nat.and_le_right h
theorem or8 {a b : Nat} (h : a < 256) (h' : b < 256) : a ||| b < 256 := Nat.or_lt_two_pow (n := 8) h h'
theorem xor8 {a b : Nat} (h : a < 256) (h' : b < 256) : a ^^^ b < 256 := Nat.xor_lt_two_pow (n := 8) h h'
theorem nKeep_lt (f g : Nat) : nKeep f g < 256 := or8 (and8' (by omega)) (and8' (by omega))
theorem nCmp_lt (a b : Nat) : nCmp a b < 256 := or8 (and8' (by omega)) (and8' (by omega))
theorem nDaaV_lt (a f : Nat) : nDaaV a f < 256 := by unfold nDaaV; cases nBit 2 f <;> exact Nat.mod_lt _ (by omega)
theorem nDaaF_lt (a f : Nat) : nDaaF a f < 256 := nByte_lt _ _ _ _ _ _ _ _

/-- a number's bits as flags, and back -/
theorem nByte_of (f : Nat) (h : f < 256) : nByte (nBit 128 f) (nBit 64 f) (nBit 32 f) (nBit 16 f) (nBit 8 f) (nBit 4 f) (nBit 2 f) (nBit 1 f) = f := by
  have := allB_at (show allB 256 (fun f => Nat.beq (nByte (nBit 128 f) (nBit 64 f) (nBit 32 f) (nBit 16 f) (nBit 8 f) (nBit 4 f) (nBit 2 f) (nBit 1 f)) f) = true by decide +kernel) f h
  exact Nat.eq_of_beq_eq_true this
theorem nByte_keep (f g : Nat) (hf : f < 256) (hg : g < 256) : nByte (nBit 128 f) (nBit 64 f) (nBit 32 f) (nBit 16 f) (nBit 8 f) (nBit 4 f) (nBit 2 f) (nBit 1 g) = nKeep f g := by
  have h1 := allB_at (show allB 256 (fun f => and (Nat.beq (nByte (nBit 128 f) (nBit 64 f) (nBit 32 f) (nBit 16 f) (nBit 8 f) (nBit 4 f) (nBit 2 f) false) (Nat.lor (Nat.land f 254) 0)) (Nat.beq (nByte (nBit 128 f) (nBit 64 f) (nBit 32 f) (nBit 16 f) (nBit 8 f) (nBit 4 f) (nBit 2 f) true) (Nat.lor (Nat.land f 254) 1))) = true by decide +kernel) f hf
  have h2 := allB_at (show allB 256 (fun g => Nat.beq (Nat.land g 1) (cond (nBit 1 g) 1 0)) = true by decide +kernel) g hg
  have e := Nat.eq_of_beq_eq_true h2
  rw [Bool.and_eq_true] at h1
  unfold nKeep
  rw [e]
  cases nBit 1 g
  · exact Nat.eq_of_beq_eq_true h1.1
  · exact Nat.eq_of_beq_eq_true h1.2
theorem nByte_stray (f b : Nat) (hf : f < 256) (hb : b < 256) : nByte (nBit 128 f) (nBit 64 f) (nBit 32 b) (nBit 16 f) (nBit 8 b) (nBit 4 f) (nBit 2 f) (nBit 1 f) = Nat.lor (Nat.land f 215) (Nat.land b 40) := by
  have h2 := allB_at (show allB 256 (fun g => Nat.beq (Nat.land g 40) (Nat.add (cond (nBit 32 g) 32 0) (cond (nBit 8 g) 8 0))) = true by decide +kernel) b hb
  rw [Nat.eq_of_beq_eq_true h2]
  have h1 := allB_at (show allB 256 (fun f => 
    and (and (Nat.beq (nByte (nBit 128 f) (nBit 64 f) false (nBit 16 f) false (nBit 4 f) (nBit 2 f) (nBit 1 f)) (Nat.lor (Nat.land f 215) 0))
     (Nat.beq (nByte (nBit 128 f) (nBit 64 f) false (nBit 16 f) true (nBit 4 f) (nBit 2 f) (nBit 1 f)) (Nat.lor (Nat.land f 215) 8)))
     (and (Nat.beq (nByte (nBit 128 f) (nBit 64 f) true (nBit 16 f) false (nBit 4 f) (nBit 2 f) (nBit 1 f)) (Nat.lor (Nat.land f 215) 32))
     (Nat.beq (nByte (nBit 128 f) (nBit 64 f) true (nBit 16 f) true (nBit 4 f) (nBit 2 f) (nBit 1 f)) (Nat.lor (Nat.land f 215) 40)))) = true by decide +kernel) f hf
  simp only [Bool.and_eq_true] at h1
  obtain ⟨⟨a, b'⟩, c, d⟩ := h1
  cases nBit 32 b <;> cases nBit 8 b
  · exact Nat.eq_of_beq_eq_true a
  · exact Nat.eq_of_beq_eq_true b'
  · exact Nat.eq_of_beq_eq_true c
  · exact Nat.eq_of_beq_eq_true d

/-- a byte's own flags, by its bits -/
theorem shape_bits (v : Nat) (h : v < 256) : Nat.lor (Nat.land v 168) (cond (Nat.beq v 0) 64 0) = nShape v := by
  exact Nat.eq_of_beq_eq_true (allB_at (show allB 256 (fun v => Nat.beq (Nat.lor (Nat.land v 168) (cond (Nat.beq v 0) 64 0)) (nShape v)) = true by decide +kernel) v h)
theorem bits_bits (v : Nat) (h : v < 256) : Nat.lor (nShape v) (cond (nPar v) 4 0) = nBitsF v false := by
  exact Nat.eq_of_beq_eq_true (allB_at (show allB 256 (fun v => Nat.beq (Nat.lor (nShape v) (cond (nPar v) 4 0)) (nBitsF v false)) = true by decide +kernel) v h)
theorem bits_half (v : Nat) (h : v < 256) : Nat.lor (nBitsF v false) 16 = nBitsF v true := by
  exact Nat.eq_of_beq_eq_true (allB_at (show allB 256 (fun v => Nat.beq (Nat.lor (nBitsF v false) 16) (nBitsF v true)) = true by decide +kernel) v h)

/-- to take away is to add all bits turned, and one; but the carries are the other way round -/
theorem sub_by_add (a b c : Nat) (ha : a < 256) (hb : b < 256) (hc : c ≤ 1) : nAddV a (255 - b) (1 - c) = nSubV a b c ∧ Nat.lor (Nat.xor (nAddF a (255 - b) (1 - c)) 17) 2 = nSubF a b c := by
  have hv : nAddV a (255 - b) (1 - c) = nSubV a b c := by
    show (a + (255 - b) + (1 - c)) % 256 = (a + 512 - (b + c)) % 256
    omega
  refine ⟨hv, ?_⟩
  unfold nAddF nSubF
  rw [hv]
  unfold nAddFof nSubFof
  have e1 : Nat.ble 16 (Nat.add (Nat.add (Nat.mod a 16) (Nat.mod (255 - b) 16)) (1 - c)) = not (Nat.ble (Nat.add (Nat.mod a 16) 1) (Nat.add (Nat.mod b 16) c)) := by
    rw [Bool.eq_iff_iff, Bool.not_eq_true', Bool.eq_false_iff]
    simp only [ne_eq, Nat.ble_eq]
    show 16 ≤ a % 16 + (255 - b) % 16 + (1 - c) ↔ ¬ (a % 16 + 1 ≤ b % 16 + c)
    omega
  have e2 : Nat.ble 256 (Nat.add (Nat.add a (255 - b)) (1 - c)) = not (Nat.ble (Nat.add a 1) (Nat.add b c)) := by
    rw [Bool.eq_iff_iff, Bool.not_eq_true', Bool.eq_false_iff]
    simp only [ne_eq, Nat.ble_eq]
    show 256 ≤ a + (255 - b) + (1 - c) ↔ ¬ (a + 1 ≤ b + c)
    omega
  have e3 : Nat.add (Nat.add (nHalf a) (nHalf (255 - b))) (1 - c) = Nat.sub (Nat.add (nHalf a) 256) (Nat.add (nHalf b) c) := by
    show (a + 128) % 256 + (255 - b + 128) % 256 + (1 - c) = (a + 128) % 256 + 256 - ((b + 128) % 256 + c)
    omega
  rw [e1, e2, e3]
  generalize nS (nSubV a b c) = s
  generalize nZ (nSubV a b c) = z
  generalize nBit 32 (nSubV a b c) = y
  generalize nBit 8 (nSubV a b c) = x
  generalize Nat.ble (Nat.add (Nat.mod a 16) 1) (Nat.add (Nat.mod b 16) c) = h
  generalize Nat.ble (Nat.add a 1) (Nat.add b c) = k
  generalize nOver _ = p
  cases s <;> cases z <;> cases y <;> cases h <;> cases x <;> cases p <;> cases k <;> rfl

end Go.Proofs.YthehpkhhoimecaaDoor
