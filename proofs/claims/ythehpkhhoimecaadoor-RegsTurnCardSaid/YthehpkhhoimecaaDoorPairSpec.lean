/-
  The sums of numbers below 65536: each by one function over natural numbers, and flags as a number. Nothing here speaks of the program.
-/
import Derived.Test.YthehpkhhoimecaaDoorSumSpec
import Derived.Laws.BitsAll
namespace Go.Proofs.YthehpkhhoimecaaDoor
open Go.RowKit

def wHigh (v : Nat) : Nat := Nat.div v 256
def wAddV (a b c : Nat) : Nat := Nat.mod (Nat.add (Nat.add a b) c) 65536
def wHalf (a b c : Nat) : Bool := Nat.ble 4096 (Nat.add (Nat.add (Nat.mod a 4096) (Nat.mod b 4096)) c)
def wCar (a b c : Nat) : Bool := Nat.ble 65536 (Nat.add (Nat.add a b) c)
def wTurn (a : Nat) : Nat := Nat.mod (Nat.add a 32768) 65536
def wOver (t : Nat) : Bool := not (and (Nat.ble 32768 t) (Nat.ble t 98303))
def wTold (a b c : Nat) : Nat := nByte false false false (wHalf a b c) false false false (wCar a b c)
def wAddF (a b f : Nat) : Nat :=
  nByte (nBit 128 f) (nBit 64 f) (nBit 32 (wHigh (wAddV a b 0))) (wHalf a b 0) (nBit 8 (wHigh (wAddV a b 0))) (nBit 4 f) false (wCar a b 0)
def wAdcF (a b c : Nat) : Nat :=
  nByte (nS (wHigh (wAddV a b c))) (nZ (wAddV a b c)) (nBit 32 (wHigh (wAddV a b c))) (wHalf a b c) (nBit 8 (wHigh (wAddV a b c))) (wOver (Nat.add (Nat.add (wTurn a) (wTurn b)) c)) false (wCar a b c)
def wSubV (a b c : Nat) : Nat := Nat.mod (Nat.sub (Nat.add a 131072) (Nat.add b c)) 65536
def wHalfS (a b c : Nat) : Bool := Nat.ble (Nat.add (Nat.mod a 4096) 1) (Nat.add (Nat.mod b 4096) c)
def wCarS (a b c : Nat) : Bool := Nat.ble (Nat.add a 1) (Nat.add b c)
def wSbcF (a b c : Nat) : Nat :=
  nByte (nS (wHigh (wSubV a b c))) (nZ (wSubV a b c)) (nBit 32 (wHigh (wSubV a b c))) (wHalfS a b c) (nBit 8 (wHigh (wSubV a b c))) (wOver (Nat.sub (Nat.add (wTurn a) 65536) (Nat.add (wTurn b) c))) true (wCarS a b c)
/-- a number, some on, or back -/
def wMove (v b : Nat) : Nat := Nat.mod (Nat.add v (cond (Nat.ble 128 b) (Nat.add b 65280) b)) 65536

theorem wAddV_lt (a b c : Nat) : wAddV a b c < 65536 := Nat.mod_lt _ (by omega)
theorem wSubV_lt (a b c : Nat) : wSubV a b c < 65536 := Nat.mod_lt _ (by omega)
theorem wTold_lt (a b c : Nat) : wTold a b c < 256 := nByte_lt _ _ _ _ _ _ _ _
theorem wAddF_lt (a b f : Nat) : wAddF a b f < 256 := nByte_lt _ _ _ _ _ _ _ _
theorem wAdcF_lt (a b c : Nat) : wAdcF a b c < 256 := nByte_lt _ _ _ _ _ _ _ _
theorem wSbcF_lt (a b c : Nat) : wSbcF a b c < 256 := nByte_lt _ _ _ _ _ _ _ _
theorem wMove_lt (v b : Nat) : wMove v b < 65536 := Nat.mod_lt _ (by omega)
theorem wHigh_lt (v : Nat) (h : v < 65536) : wHigh v < 256 := by show v / 256 < 256; omega

theorem ble_t {a b : Nat} (h : a ≤ b) : Nat.ble a b = true := by rw [Nat.ble_eq]; exact h
theorem ble_f {a b : Nat} (h : ¬ a ≤ b) : Nat.ble a b = false := by rw [← Bool.not_eq_true, Nat.ble_eq]; exact h
/-- one bit of a number, by its worth -/
theorem xor_bit (i a b : Nat) : (a ^^^ b) / 2 ^ i % 2 = (a / 2 ^ i + b / 2 ^ i) % 2 := by
  have h := Nat.testBit_xor a b i
  simp only [Nat.testBit_eq_decide_div_mod_eq] at h
  have ha := Nat.mod_two_eq_zero_or_one (a / 2 ^ i)
  have hb := Nat.mod_two_eq_zero_or_one (b / 2 ^ i)
  have hc := Nat.mod_two_eq_zero_or_one ((a ^^^ b) / 2 ^ i)
  rw [Nat.add_mod]
  rcases ha with ha | ha <;> rcases hb with hb | hb <;> rcases hc with hc | hc <;> simp_all
theorem and_bit (i a b : Nat) : (a &&& b) / 2 ^ i % 2 = (a / 2 ^ i % 2) * (b / 2 ^ i % 2) := by
  have h := Nat.testBit_and a b i
  simp only [Nat.testBit_eq_decide_div_mod_eq] at h
  have ha := Nat.mod_two_eq_zero_or_one (a / 2 ^ i)
  have hb := Nat.mod_two_eq_zero_or_one (b / 2 ^ i)
  have hc := Nat.mod_two_eq_zero_or_one ((a &&& b) / 2 ^ i)
  rcases ha with ha | ha <;> rcases hb with hb | hb <;> rcases hc with hc | hc <;> simp_all

theorem wHalf_iff (a b c : Nat) : wHalf a b c = true ↔ 4096 ≤ a % 4096 + b % 4096 + c := by unfold wHalf; rw [Nat.ble_eq]; exact Iff.rfl
theorem wCar_iff (a b c : Nat) : wCar a b c = true ↔ 65536 ≤ a + b + c := by unfold wCar; rw [Nat.ble_eq]; exact Iff.rfl
theorem wOver_iff (t : Nat) : wOver t = true ↔ ¬ (32768 ≤ t ∧ t ≤ 98303) := by
  unfold wOver
  rw [Bool.not_eq_true', ← Bool.not_eq_true, Bool.and_eq_true, Nat.ble_eq, Nat.ble_eq]
theorem false_of {b : Bool} {p : Prop} (h : b = true ↔ p) (n : ¬ p) : b = false := by rw [← Bool.not_eq_true, h]; exact n
theorem half_bit (a b c v : Nat) (_ha : a < 65536) (_hb : b < 65536) (hc : c ≤ 1) (hv : wAddV a b c = v) : (wHigh (a ^^^ b ^^^ v)) &&& 16 = cond (wHalf a b c) 16 0 := by
  rw [show (16 : Nat) = 2 ^ 4 from rfl, nat_bit]
  have e : wHigh (a ^^^ b ^^^ v) / 2 ^ 4 % 2 = (a / 4096 + b / 4096 + v / 4096) % 2 := by
    show (a ^^^ b ^^^ v) / 256 / 2 ^ 4 % 2 = _
    rw [Nat.div_div_eq_div_mul, show 256 * 2 ^ 4 = 2 ^ 12 from rfl, xor_bit]
    have := xor_bit 12 a b
    simp only [show (2 : Nat) ^ 12 = 4096 from rfl] at this ⊢
    omega
  rw [e]
  have hv' : (a + b + c) % 65536 = v := hv
  by_cases h : 4096 ≤ a % 4096 + b % 4096 + c
  · rw [(wHalf_iff a b c).2 h]
    show _ * 2 ^ 4 = 2 ^ 4
    have : (a / 4096 + b / 4096 + v / 4096) % 2 = 1 := by omega
    rw [this]
  · rw [false_of (wHalf_iff a b c) h]
    show _ * 2 ^ 4 = 0
    have : (a / 4096 + b / 4096 + v / 4096) % 2 = 0 := by omega
    rw [this]
theorem car_bit (a b c : Nat) (ha : a < 65536) (hb : b < 65536) (hc : c ≤ 1) : ((a + b + c) / 65536) &&& 1 = cond (wCar a b c) 1 0 := by
  rw [Nat.and_one_is_mod]
  by_cases h : 65536 ≤ a + b + c
  · rw [(wCar_iff a b c).2 h]
    show _ = 1
    omega
  · rw [false_of (wCar_iff a b c) h]
    show _ = 0
    omega
theorem told_bits (a b c v : Nat) (ha : a < 65536) (hb : b < 65536) (hc : c ≤ 1) (hv : wAddV a b c = v) :
    (((a + b + c) / 65536 &&& 1) ||| (wHigh (a ^^^ b ^^^ v) &&& 16)) = wTold a b c := by
  rw [half_bit a b c v ha hb hc hv, car_bit a b c ha hb hc]
  unfold wTold
  cases wHalf a b c <;> cases wCar a b c <;> rfl
theorem over_bit (a b c v : Nat) (ha : a < 65536) (hb : b < 65536) (hc : c ≤ 1) (hv : wAddV a b c = v) :
    (((a ^^^ v) &&& (b ^^^ v)) / 8192) &&& 4 = cond (wOver (Nat.add (Nat.add (wTurn a) (wTurn b)) c)) 4 0 := by
  rw [show (4 : Nat) = 2 ^ 2 from rfl, nat_bit]
  rw [Nat.div_div_eq_div_mul, show 8192 * 2 ^ 2 = 2 ^ 15 from rfl, and_bit, xor_bit, xor_bit]
  have hv' : (a + b + c) % 65536 = v := hv
  simp only [show (2 : Nat) ^ 15 = 32768 from rfl]
  obtain ⟨s, hs⟩ : ∃ s, Nat.add (Nat.add (wTurn a) (wTurn b)) c = s := ⟨_, rfl⟩
  rw [hs]
  have hs' : (a + 32768) % 65536 + (b + 32768) % 65536 + c = s := hs
  by_cases h : 32768 ≤ s ∧ s ≤ 98303
  · rw [false_of (wOver_iff s) (fun n => n h)]
    show _ = 0
    have : (a / 32768 + v / 32768) % 2 = 0 ∨ (b / 32768 + v / 32768) % 2 = 0 := by omega
    rcases this with e | e <;> rw [e] <;> simp
  · have : (a / 32768 + v / 32768) % 2 = 1 ∧ (b / 32768 + v / 32768) % 2 = 1 := by omega
    rw [this.1, this.2, (wOver_iff s).2 h]
    rfl
theorem three_bits (v : Nat) (h : v < 256) : v &&& 168 = nByte (nS v) false (nBit 32 v) false (nBit 8 v) false false false :=
  Nat.eq_of_beq_eq_true (allB_at (show allB 256 (fun v => Nat.beq (Nat.land v 168) (nByte (nS v) false (nBit 32 v) false (nBit 8 v) false false false)) = true by decide +kernel) v h)
theorem stray_bits (v : Nat) (h : v < 256) : v &&& 40 = nByte false false (nBit 32 v) false (nBit 8 v) false false false :=
  Nat.eq_of_beq_eq_true (allB_at (show allB 256 (fun v => Nat.beq (Nat.land v 40) (nByte false false (nBit 32 v) false (nBit 8 v) false false false)) = true by decide +kernel) v h)
theorem kept_bits (v : Nat) (h : v < 256) : v &&& 196 = nByte (nBit 128 v) (nBit 64 v) false false false (nBit 4 v) false false :=
  Nat.eq_of_beq_eq_true (allB_at (show allB 256 (fun v => Nat.beq (Nat.land v 196) (nByte (nBit 128 v) (nBit 64 v) false false false (nBit 4 v) false false)) = true by decide +kernel) v h)

theorem wadd_flags (a b f v t g : Nat) (hf : f < 256) (hv : wAddV a b 0 = v) (ht : wTold a b 0 = t) (hg : wAddF a b f = g) : (t ||| (f &&& 196)) ||| (wHigh v &&& 40) = g := by
  have v1 : v < 65536 := hv ▸ wAddV_lt _ _ _
  rw [kept_bits f hf, stray_bits _ (wHigh_lt v v1), ← ht, ← hg]
  unfold wTold wAddF
  rw [hv]
  generalize nBit 128 f = s; generalize nBit 64 f = z; generalize nBit 4 f = p; generalize nBit 32 (wHigh v) = y; generalize nBit 8 (wHigh v) = x; generalize wHalf a b 0 = h; generalize wCar a b 0 = c
  cases s <;> cases z <;> cases p <;> cases y <;> cases x <;> cases h <;> cases c <;> rfl
theorem wadc_flags (a b c v t g z : Nat) (ha : a < 65536) (hb : b < 65536) (hc : c ≤ 1) (hv : wAddV a b c = v) (ht : wTold a b c = t) (hg : wAdcF a b c = g) (hz : cond (nZ v) 64 0 = z) :
    ((t ||| ((((a ^^^ v) &&& (b ^^^ v)) / 8192) &&& 4)) ||| (wHigh v &&& 168)) ||| z = g := by
  have v1 : v < 65536 := hv ▸ wAddV_lt _ _ _
  rw [over_bit a b c v ha hb hc hv, three_bits _ (wHigh_lt v v1), ← ht, ← hg, ← hz]
  unfold wTold wAdcF
  rw [hv]
  generalize wOver _ = p; generalize nS (wHigh v) = s; generalize nZ v = z; generalize nBit 32 (wHigh v) = y; generalize nBit 8 (wHigh v) = x; generalize wHalf a b c = h; generalize wCar a b c = c
  cases s <;> cases z <;> cases p <;> cases y <;> cases x <;> cases h <;> cases c <;> rfl

/-- to take away is to add all bits turned, and one; but the carries are the other way round -/
theorem wsub_by_add (a b c : Nat) (ha : a < 65536) (hb : b < 65536) (hc : c ≤ 1) : wAddV a (65535 - b) (1 - c) = wSubV a b c ∧ (wAdcF a (65535 - b) (1 - c) ^^^ 17) ||| 2 = wSbcF a b c := by
  have hv : wAddV a (65535 - b) (1 - c) = wSubV a b c := by
    show (a + (65535 - b) + (1 - c)) % 65536 = (a + 131072 - (b + c)) % 65536
    omega
  refine ⟨hv, ?_⟩
  unfold wAdcF wSbcF
  rw [hv]
  have e1 : wHalf a (65535 - b) (1 - c) = not (wHalfS a b c) := by
    unfold wHalf wHalfS
    rw [Bool.eq_iff_iff, Bool.not_eq_true', Bool.eq_false_iff]
    simp only [ne_eq, Nat.ble_eq]
    show 4096 ≤ a % 4096 + (65535 - b) % 4096 + (1 - c) ↔ ¬ (a % 4096 + 1 ≤ b % 4096 + c)
    omega
  have e2 : wCar a (65535 - b) (1 - c) = not (wCarS a b c) := by
    unfold wCar wCarS
    rw [Bool.eq_iff_iff, Bool.not_eq_true', Bool.eq_false_iff]
    simp only [ne_eq, Nat.ble_eq]
    show 65536 ≤ a + (65535 - b) + (1 - c) ↔ ¬ (a + 1 ≤ b + c)
    omega
  have e3 : Nat.add (Nat.add (wTurn a) (wTurn (65535 - b))) (1 - c) = Nat.sub (Nat.add (wTurn a) 65536) (Nat.add (wTurn b) c) := by
    show (a + 32768) % 65536 + (65535 - b + 32768) % 65536 + (1 - c) = (a + 32768) % 65536 + 65536 - ((b + 32768) % 65536 + c)
    omega
  rw [e1, e2, e3]
  generalize nS (wHigh (wSubV a b c)) = s
  generalize nZ (wSubV a b c) = z
  generalize nBit 32 (wHigh (wSubV a b c)) = y
  generalize nBit 8 (wHigh (wSubV a b c)) = x
  generalize wHalfS a b c = h
  generalize wCarS a b c = k
  generalize wOver _ = p
  cases s <;> cases z <;> cases y <;> cases h <;> cases x <;> cases p <;> cases k <;> rfl

theorem wadd_swap (a b k : Nat) : wAddV b a k = wAddV a b k ∧ wAdcF b a k = wAdcF a b k := by
  have e : wAddV b a k = wAddV a b k := by show (b + a + k) % 65536 = (a + b + k) % 65536; omega
  refine ⟨e, ?_⟩
  unfold wAdcF wHalf wCar
  rw [e]
  rw [show Nat.add (Nat.add (Nat.mod b 4096) (Nat.mod a 4096)) k = Nat.add (Nat.add (Nat.mod a 4096) (Nat.mod b 4096)) k by show b % 4096 + a % 4096 + k = a % 4096 + b % 4096 + k; omega,
    show Nat.add (Nat.add (wTurn b) (wTurn a)) k = Nat.add (Nat.add (wTurn a) (wTurn b)) k by show wTurn b + wTurn a + k = wTurn a + wTurn b + k; omega,
    show Nat.add (Nat.add b a) k = Nat.add (Nat.add a b) k by show b + a + k = a + b + k; omega]
theorem wadd_sub (a b k v : Nat) (ha : a < 65536) (hb : b < 65536) (hk : k ≤ 1) (hv : wAddV a b k = v) : wSubV v b k = a := by
  rw [← hv]
  show ((a + b + k) % 65536 + 131072 - (b + k)) % 65536 = a
  omega
theorem wkeep (a b f z : Nat) (hf : f < 256) (hz : wAddF a b f = z) : (z ^^^ f) &&& 196 = 0 ∧ z &&& 2 = 0 := by
  have h : (wAddF a b f ^^^ nByte (nBit 128 f) (nBit 64 f) (nBit 32 f) (nBit 16 f) (nBit 8 f) (nBit 4 f) (nBit 2 f) (nBit 1 f)) &&& 196 = 0 ∧ wAddF a b f &&& 2 = 0 := by
    unfold wAddF
    generalize nBit 128 f = s; generalize nBit 64 f = z; generalize nBit 4 f = p; generalize nBit 32 (wHigh (wAddV a b 0)) = y; generalize nBit 8 (wHigh (wAddV a b 0)) = x; generalize wHalf a b 0 = h; generalize wCar a b 0 = c
    generalize nBit 32 f = y'; generalize nBit 16 f = h'; generalize nBit 8 f = x'; generalize nBit 2 f = n'; generalize nBit 1 f = c'
    revert s z p y x h c y' h' x' n' c'
    decide +kernel
  rw [nByte_of f hf, hz] at h
  exact h
theorem wadc_n (a b c g : Nat) (hg : wAdcF a b c = g) : g &&& 2 = 0 := by
  rw [← hg]
  unfold wAdcF
  generalize wOver _ = p; generalize nS _ = s; generalize nZ _ = z; generalize nBit 32 _ = y; generalize nBit 8 _ = x; generalize wHalf a b c = h; generalize wCar a b c = c
  cases s <;> cases z <;> cases p <;> cases y <;> cases x <;> cases h <;> cases c <;> rfl

end Go.Proofs.YthehpkhhoimecaaDoor
