/-
  The turns of bytes by numbers below 256: each by one function over natural numbers, and flags as a number. Nothing here speaks of the program.
-/
import Derived.Test.YtgkfipiefadaaaaSumSpec
import Derived.Laws.BitsAll
namespace Go.Proofs.Ytgkfipiefadaaaa
open Go.RowKit

/-- one place up, one place down, and what comes in -/
def tUp (v i : Nat) : Nat := Nat.add (Nat.mod (Nat.mul v 2) 256) i
def tDn (v i : Nat) : Nat := Nat.add (Nat.div v 2) (Nat.mul 128 i)
/-- what Turn makes of a byte with a carry, and what falls out, by the lowest three bits of op -/
def tV (k v c : Nat) : Nat :=
  match k with
  | 0 => tUp v (Nat.div v 128) | 1 => tDn v (Nat.mod v 2) | 2 => tUp v c | 3 => tDn v c
  | 4 => tUp v 0 | 5 => tDn v (Nat.div v 128) | 6 => tUp v 1 | _ => tDn v 0
def tO (k v : Nat) : Nat :=
  match k with
  | 0 => Nat.div v 128 | 1 => Nat.mod v 2 | 2 => Nat.div v 128 | 3 => Nat.mod v 2
  | 4 => Nat.div v 128 | 5 => Nat.mod v 2 | 6 => Nat.div v 128 | _ => Nat.mod v 2
/-- the flags of what came, with a carry -/
def tSaid (r : Nat) (c : Bool) : Nat := nByte (nS r) (nZ r) (nBit 32 r) false (nBit 8 r) (nPar r) false c
def tRotF (k v c : Nat) : Nat := tSaid (tV k v c) (Nat.beq (tO k v) 1)
def tQuickF (k v c f : Nat) : Nat := nByte (nBit 128 f) (nBit 64 f) (nBit 32 (tV k v c)) false (nBit 8 (tV k v c)) (nBit 4 f) false (Nat.beq (tO k v) 1)
/-- is the bit k there? -/
def tOn (k v : Nat) : Bool := Nat.beq (Nat.mod (Nat.div v (Nat.pow 2 k)) 2) 1
def tBitF (k v f b : Nat) : Nat := nByte (and (tOn k v) (Nat.beq k 7)) (not (tOn k v)) (nBit 32 b) true (nBit 8 b) (not (tOn k v)) false (nBit 1 f)
def tPut (k v : Nat) (on : Bool) : Nat := Nat.add (Nat.sub v (Nat.mul (Nat.mod (Nat.div v (Nat.pow 2 k)) 2) (Nat.pow 2 k))) (cond on (Nat.pow 2 k) 0)
def tDigA (left : Bool) (a m : Nat) : Nat := Nat.add (Nat.mul (Nat.div a 16) 16) (cond left (Nat.div m 16) (Nat.mod m 16))
def tDigM (left : Bool) (a m : Nat) : Nat := cond left (Nat.add (Nat.mul (Nat.mod m 16) 16) (Nat.mod a 16)) (Nat.add (Nat.mul (Nat.mod a 16) 16) (Nat.div m 16))
def tDigF (left : Bool) (a m f : Nat) : Nat := tSaid (tDigA left a m) (nBit 1 f)

theorem tUp_lt (v i : Nat) (hi : i ≤ 1) : tUp v i < 256 := by show v * 2 % 256 + i < 256; omega
theorem tDn_lt (v i : Nat) (hv : v < 256) (hi : i ≤ 1) : tDn v i < 256 := by show v / 2 + 128 * i < 256; omega
theorem tO_le (k v : Nat) (hv : v < 256) : tO k v ≤ 1 := by
  have h1 : Nat.div v 128 ≤ 1 := by show v / 128 ≤ 1; omega
  have h2 : Nat.mod v 2 ≤ 1 := by show v % 2 ≤ 1; omega
  unfold tO; split <;> assumption
theorem tV_lt (k v c : Nat) (hv : v < 256) (hc : c ≤ 1) : tV k v c < 256 := by
  have h1 : Nat.div v 128 ≤ 1 := by show v / 128 ≤ 1; omega
  have h2 : Nat.mod v 2 ≤ 1 := by show v % 2 ≤ 1; omega
  unfold tV; split <;> first | exact tUp_lt _ _ (by assumption) | exact tUp_lt _ _ (by omega) | exact tDn_lt _ _ hv (by assumption) | exact tDn_lt _ _ hv (by omega)
theorem tSaid_lt (r : Nat) (c : Bool) : tSaid r c < 256 := nByte_lt _ _ _ _ _ _ _ _
theorem tRotF_lt (k v c : Nat) : tRotF k v c < 256 := nByte_lt _ _ _ _ _ _ _ _
theorem tQuickF_lt (k v c f : Nat) : tQuickF k v c f < 256 := nByte_lt _ _ _ _ _ _ _ _
theorem tBitF_lt (k v f b : Nat) : tBitF k v f b < 256 := nByte_lt _ _ _ _ _ _ _ _
theorem tDigA_lt (left : Bool) (a m : Nat) (ha : a < 256) (hm : m < 256) : tDigA left a m < 256 := by
  cases left
  · show a / 16 * 16 + m % 16 < 256; omega
  · show a / 16 * 16 + m / 16 < 256; omega
theorem tDigM_lt (left : Bool) (a m : Nat) (_ha : a < 256) (hm : m < 256) : tDigM left a m < 256 := by
  cases left
  · show a % 16 * 16 + m / 16 < 256; omega
  · show m % 16 * 16 + a % 16 < 256; omega
theorem tPut_lt (k v : Nat) (on : Bool) (hk : k < 8) (hv : v < 256) : tPut k v on < 256 := by
  have h := allB_at2 (n := 8) (m := 256) (p := fun k v => and (Nat.blt (tPut k v true) 256) (Nat.blt (tPut k v false) 256)) (by decide +kernel) k v hk hv
  rw [Bool.and_eq_true, Nat.blt_eq, Nat.blt_eq] at h
  cases on
  · exact h.2
  · exact h.1

/-- code's bits as numbers -/
theorem up_bits (v i : Nat) (hv : v < 256) (hi : i ≤ 1) : (v * 2 % 256) ||| i = tUp v i :=
  Nat.eq_of_beq_eq_true (allB_at2 (n := 256) (m := 2) (p := fun v i => Nat.beq (Nat.lor (Nat.mod (Nat.mul v 2) 256) i) (tUp v i)) (by decide +kernel) v i hv (by omega))
theorem dn_bits (v i : Nat) (hv : v < 256) (hi : i ≤ 1) : (i * 128) ||| (v / 2) = tDn v i :=
  Nat.eq_of_beq_eq_true (allB_at2 (n := 256) (m := 2) (p := fun v i => Nat.beq (Nat.lor (Nat.mul i 128) (Nat.div v 2)) (tDn v i)) (by decide +kernel) v i hv (by omega))
theorem said_bits (r o s : Nat) (ho : o ≤ 1) (hs : nBitsF r false = s) : s ||| o = tSaid r (Nat.beq o 1) := by
  rw [← hs]
  unfold tSaid nBitsF
  have h : o = 0 ∨ o = 1 := by omega
  generalize nS r = s; generalize nZ r = z; generalize nBit 32 r = y; generalize nBit 8 r = x; generalize nPar r = p
  rcases h with rfl | rfl <;> cases s <;> cases z <;> cases y <;> cases x <;> cases p <;> rfl
theorem one_bit (f : Nat) (h : f < 256) : f &&& 1 = cond (nBit 1 f) 1 0 :=
  Nat.eq_of_beq_eq_true (allB_at (show allB 256 (fun v => Nat.beq (Nat.land v 1) (cond (nBit 1 v) 1 0)) = true by decide +kernel) f h)
theorem one_mod (f c : Nat) (hc : f % 2 = c) : nBit 1 f = Nat.beq c 1 := by
  unfold nBit
  rw [← hc]
  show Nat.beq (f / 1 % 2) 1 = _
  rw [Nat.div_one]
theorem stray_bits (v : Nat) (h : v < 256) : v &&& 40 = nByte false false (nBit 32 v) false (nBit 8 v) false false false :=
  Nat.eq_of_beq_eq_true (allB_at (show allB 256 (fun v => Nat.beq (Nat.land v 40) (nByte false false (nBit 32 v) false (nBit 8 v) false false false)) = true by decide +kernel) v h)
theorem kept_bits (v : Nat) (h : v < 256) : v &&& 196 = nByte (nBit 128 v) (nBit 64 v) false false false (nBit 4 v) false false :=
  Nat.eq_of_beq_eq_true (allB_at (show allB 256 (fun v => Nat.beq (Nat.land v 196) (nByte (nBit 128 v) (nBit 64 v) false false false (nBit 4 v) false false)) = true by decide +kernel) v h)
theorem nByte_one (s z y h x p n c : Bool) : nByte s z y h x p n c &&& 1 = cond c 1 0 := by
  cases s <;> cases z <;> cases y <;> cases h <;> cases x <;> cases p <;> cases n <;> cases c <;> rfl
theorem rot_one (k v c g : Nat) (hv : v < 256) (hg : tRotF k v c = g) : g &&& 1 = tO k v := by
  rw [← hg]
  unfold tRotF tSaid
  rw [nByte_one]
  have h := tO_le k v hv
  have h2 : tO k v = 0 ∨ tO k v = 1 := by omega
  rcases h2 with e | e <;> rw [e] <;> rfl
theorem quick_bits (k v c f r o g : Nat) (hv : v < 256) (hf : f < 256) (hc : c ≤ 1) (hr : tV k v c = r) (ho : tO k v = o) (hg : tQuickF k v c f = g) : ((f &&& 196) ||| (r &&& 40)) ||| o = g := by
  have r1 : r < 256 := hr ▸ tV_lt k v c hv hc
  have o1 : o ≤ 1 := ho ▸ tO_le k v hv
  rw [kept_bits f hf, stray_bits r r1, ← hg]
  unfold tQuickF
  rw [hr, ho]
  have h2 : o = 0 ∨ o = 1 := by omega
  generalize nBit 128 f = s; generalize nBit 64 f = z; generalize nBit 4 f = p; generalize nBit 32 r = y; generalize nBit 8 r = x
  rcases h2 with rfl | rfl <;> cases s <;> cases z <;> cases p <;> cases y <;> cases x <;> rfl

theorem asked_bits (k v x : Nat) (hk : k < 8) (hv : v < 256) (hx : v &&& 2 ^ k = x) : x &&& 128 = cond (and (tOn k v) (Nat.beq k 7)) 128 0 ∧ Nat.beq x 0 = not (tOn k v) := by
  have h := allB_at2 (n := 8) (m := 256) (p := fun k v => and (Nat.beq (Nat.land (Nat.land v (Nat.pow 2 k)) 128) (cond (and (tOn k v) (Nat.beq k 7)) 128 0)) (xor (Nat.beq (Nat.land v (Nat.pow 2 k)) 0) (tOn k v))) (by decide +kernel) k v hk hv
  rw [Bool.and_eq_true] at h
  rw [← hx]
  refine ⟨Nat.eq_of_beq_eq_true h.1, ?_⟩
  have h2 := h.2
  have e : Nat.land v (Nat.pow 2 k) = v &&& 2 ^ k := rfl
  rw [e] at h2
  revert h2
  cases Nat.beq (v &&& 2 ^ k) 0 <;> cases tOn k v <;> simp
theorem bit_bits (k v f b x g : Nat) (z : Nat) (hk : k < 8) (hv : v < 256) (hf : f < 256) (hb : b < 256) (hx : v &&& 2 ^ k = x) (hz : cond (Nat.beq x 0) 68 0 = z) (hg : tBitF k v f b = g) :
    ((((x &&& 128) ||| z) ||| 16) ||| (f &&& 1)) ||| (b &&& 40) = g := by
  have ⟨h1, h2⟩ := asked_bits k v x hk hv hx
  rw [h1, ← hz, h2, one_bit f hf, stray_bits b hb, ← hg]
  unfold tBitF
  generalize tOn k v = on; generalize Nat.beq k 7 = s; generalize nBit 1 f = c; generalize nBit 32 b = y; generalize nBit 8 b = x
  cases on <;> cases s <;> cases c <;> cases y <;> cases x <;> rfl
theorem put_bits (k v : Nat) (on : Bool) (m : Nat) (hk : k < 8) (hv : v < 256) (hm : 2 ^ k = m) : (v &&& (255 - m)) ||| cond on m 0 = tPut k v on := by
  have h := allB_at2 (n := 8) (m := 256) (p := fun k v => and (Nat.beq (Nat.lor (Nat.land v (Nat.sub 255 (Nat.pow 2 k))) (Nat.pow 2 k)) (tPut k v true)) (Nat.beq (Nat.lor (Nat.land v (Nat.sub 255 (Nat.pow 2 k))) 0) (tPut k v false))) (by decide +kernel) k v hk hv
  rw [Bool.and_eq_true] at h
  rw [← hm]
  cases on
  · exact Nat.eq_of_beq_eq_true h.2
  · exact Nat.eq_of_beq_eq_true h.1
theorem upper_bits (a : Nat) (h : a < 256) : a &&& (255 - 15) = a / 16 * 16 :=
  Nat.eq_of_beq_eq_true (allB_at (show allB 256 (fun a => Nat.beq (Nat.land a (Nat.sub 255 15)) (Nat.mul (Nat.div a 16) 16)) = true by decide +kernel) a h)
theorem low_bits (a : Nat) (h : a < 256) : a &&& 15 = a % 16 :=
  Nat.eq_of_beq_eq_true (allB_at (show allB 256 (fun a => Nat.beq (Nat.land a 15) (Nat.mod a 16)) = true by decide +kernel) a h)
theorem two_digits (a b : Nat) (ha : a < 16) (hb : b < 16) : (a * 16) ||| b = a * 16 + b :=
  Nat.eq_of_beq_eq_true (allB_at2 (n := 16) (m := 16) (p := fun a b => Nat.beq (Nat.lor (Nat.mul a 16) b) (Nat.add (Nat.mul a 16) b)) (by decide +kernel) a b ha hb)

/-- what Put laid is there, the others stand -/
theorem put_at_bit (k v : Nat) (on : Bool) (hk : k < 8) (hv : v < 256) : tOn k (tPut k v on) = on := by
  have h := allB_at2 (n := 8) (m := 256) (p := fun k v => and (tOn k (tPut k v true)) (not (tOn k (tPut k v false)))) (by decide +kernel) k v hk hv
  rw [Bool.and_eq_true, Bool.not_eq_true'] at h
  cases on
  · exact h.2
  · exact h.1
theorem put_twice (k v : Nat) (on : Bool) (hk : k < 8) (hv : v < 256) : tPut k (tPut k v (!on)) on = tPut k v on := by
  have h := allB_at2 (n := 8) (m := 256) (p := fun k v => and (Nat.beq (tPut k (tPut k v false) true) (tPut k v true)) (Nat.beq (tPut k (tPut k v true) false) (tPut k v false))) (by decide +kernel) k v hk hv
  rw [Bool.and_eq_true] at h
  cases on
  · exact Nat.eq_of_beq_eq_true h.2
  · exact Nat.eq_of_beq_eq_true h.1

end Go.Proofs.Ytgkfipiefadaaaa
