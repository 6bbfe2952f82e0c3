/-
  The law PairsBytes returns true for any two numbers and any flags, and writes nothing that was there.
-/
import Derived.Test.YtogohngbafnokaaPairNames
import Derived.Test.YtogohngbafnokaaSumRefAdd
namespace Go.Proofs.Ytogohngbafnokaa
open Go.RowKit

theorem nByte_low (s z y h x p n c : Bool) : nByte s z y h x p n c % 2 = c.toNat := by
  cases s <;> cases z <;> cases y <;> cases h <;> cases x <;> cases p <;> cases n <;> cases c <;> rfl
theorem but_zero (s z z' y h x p n c : Bool) : (nByte s z y h x p n c ^^^ nByte s z' y h x p n c) &&& 191 = 0 := by
  revert s z z' y h x p n c; decide +kernel
theorem toNat_ble (a b : Nat) : (Nat.ble a b).toNat ≤ 1 ∧ ((Nat.ble a b).toNat = 1 ↔ a ≤ b) := by
  by_cases h : a ≤ b
  · rw [ble_t h]; simp [h]
  · rw [ble_f h]; simp [h]
theorem nOver_iff (t : Nat) : nOver t = true ↔ ¬ (128 ≤ t ∧ t ≤ 383) := by
  unfold nOver
  rw [Bool.not_eq_true', ← Bool.not_eq_true, Bool.and_eq_true, Nat.ble_eq, Nat.ble_eq]

theorem bytes_add (a b k x i k2 y j p g : Nat) (ha : a < 65536) (hb : b < 65536) (hk : k ≤ 1) (hx : nAddV (a % 256) (b % 256) k = x) (hi : nAddF (a % 256) (b % 256) k = i) (hk2 : i % 2 = k2)
    (hy : nAddV (a / 256) (b / 256) k2 = y) (hj : nAddF (a / 256) (b / 256) k2 = j) (hp : wAddV a b k = p) (hg : wAdcF a b k = g) : y * 256 + x = p ∧ (g ^^^ j) &&& 191 = 0 := by
  have c2 : k2 ≤ 1 ∧ (k2 = 1 ↔ 256 ≤ a % 256 + b % 256 + k) := by
    rw [← hk2, ← hi]
    unfold nAddF nAddFof
    rw [nByte_low]
    exact toNat_ble _ _
  have hx' : (a % 256 + b % 256 + k) % 256 = x := hx
  have hy' : (a / 256 + b / 256 + k2) % 256 = y := hy
  have hp' : (a + b + k) % 65536 = p := hp
  have e : y * 256 + x = p := by omega
  refine ⟨e, ?_⟩
  rw [← hg, ← hj]
  unfold wAdcF nAddF nAddFof
  rw [hp, hy]
  have e0 : wHigh p = y := by show p / 256 = y; omega
  have e1 : wHalf a b k = Nat.ble 16 (Nat.add (Nat.add (Nat.mod (a / 256) 16) (Nat.mod (b / 256) 16)) k2) := by
    rw [Bool.eq_iff_iff, wHalf_iff, Nat.ble_eq]
    show _ ↔ 16 ≤ a / 256 % 16 + b / 256 % 16 + k2
    omega
  have e2 : wCar a b k = Nat.ble 256 (Nat.add (Nat.add (a / 256) (b / 256)) k2) := by
    rw [Bool.eq_iff_iff, wCar_iff, Nat.ble_eq]
    show _ ↔ 256 ≤ a / 256 + b / 256 + k2
    omega
  have e3 : wOver (Nat.add (Nat.add (wTurn a) (wTurn b)) k) = nOver (Nat.add (Nat.add (nHalf (a / 256)) (nHalf (b / 256))) k2) := by
    rw [Bool.eq_iff_iff, wOver_iff, nOver_iff]
    show ¬ (32768 ≤ (a + 32768) % 65536 + (b + 32768) % 65536 + k ∧ (a + 32768) % 65536 + (b + 32768) % 65536 + k ≤ 98303) ↔ ¬ (128 ≤ (a / 256 + 128) % 256 + (b / 256 + 128) % 256 + k2 ∧ (a / 256 + 128) % 256 + (b / 256 + 128) % 256 + k2 ≤ 383)
    omega
  rw [e0, e1, e2, e3]
  exact but_zero _ _ _ _ _ _ _ _ _

theorem bytes_sub (a b k x i k2 y j p g : Nat) (ha : a < 65536) (hb : b < 65536) (hk : k ≤ 1) (hx : nSubV (a % 256) (b % 256) k = x) (hi : nSubF (a % 256) (b % 256) k = i) (hk2 : i % 2 = k2)
    (hy : nSubV (a / 256) (b / 256) k2 = y) (hj : nSubF (a / 256) (b / 256) k2 = j) (hp : wSubV a b k = p) (hg : wSbcF a b k = g) : y * 256 + x = p ∧ (g ^^^ j) &&& 191 = 0 := by
  have c2 : k2 ≤ 1 ∧ (k2 = 1 ↔ a % 256 + 1 ≤ b % 256 + k) := by
    rw [← hk2, ← hi]
    unfold nSubF nSubFof
    rw [nByte_low]
    exact toNat_ble _ _
  have hx' : (a % 256 + 512 - (b % 256 + k)) % 256 = x := hx
  have hy' : (a / 256 + 512 - (b / 256 + k2)) % 256 = y := hy
  have hp' : (a + 131072 - (b + k)) % 65536 = p := hp
  have e : y * 256 + x = p := by omega
  refine ⟨e, ?_⟩
  rw [← hg, ← hj]
  unfold wSbcF nSubF nSubFof
  rw [hp, hy]
  have e0 : wHigh p = y := by show p / 256 = y; omega
  have e1 : wHalfS a b k = Nat.ble (Nat.add (Nat.mod (a / 256) 16) 1) (Nat.add (Nat.mod (b / 256) 16) k2) := by
    unfold wHalfS
    rw [Bool.eq_iff_iff, Nat.ble_eq, Nat.ble_eq]
    show a % 4096 + 1 ≤ b % 4096 + k ↔ a / 256 % 16 + 1 ≤ b / 256 % 16 + k2
    omega
  have e2 : wCarS a b k = Nat.ble (Nat.add (a / 256) 1) (Nat.add (b / 256) k2) := by
    unfold wCarS
    rw [Bool.eq_iff_iff, Nat.ble_eq, Nat.ble_eq]
    show a + 1 ≤ b + k ↔ a / 256 + 1 ≤ b / 256 + k2
    omega
  have e3 : wOver (Nat.sub (Nat.add (wTurn a) 65536) (Nat.add (wTurn b) k)) = nOver (Nat.sub (Nat.add (nHalf (a / 256)) 256) (Nat.add (nHalf (b / 256)) k2)) := by
    rw [Bool.eq_iff_iff, wOver_iff, nOver_iff]
    show ¬ (32768 ≤ (a + 32768) % 65536 + 65536 - ((b + 32768) % 65536 + k) ∧ (a + 32768) % 65536 + 65536 - ((b + 32768) % 65536 + k) ≤ 98303) ↔ ¬ (128 ≤ (a / 256 + 128) % 256 + 256 - ((b / 256 + 128) % 256 + k2) ∧ (a / 256 + 128) % 256 + 256 - ((b / 256 + 128) % 256 + k2) ≤ 383)
    omega
  rw [e0, e1, e2, e3]
  exact but_zero _ _ _ _ _ _ _ _ _

theorem toNat_one (k : Nat) (h : k ≤ 1) : ((k : Int) == 1).toNat = k := by
  rcases (show k = 0 ∨ k = 1 by omega) with rfl | rfl <;> rfl
theorem radd_to (A B : Int) (c : Bool) (a b k v f : Nat) (hA : A = (a : Int)) (hB : B = (b : Int)) (hc : c.toNat = k) (ha : a < 256) (hb : b < 256) (hv : Hid (nAddV a b k = v)) (hf : Hid (nAddF a b k = f)) (w : World) :
    Calls Try.prog 20 #[.int .u8 A, .int .u8 B, .bool c] w fun e w' => e = .returned (.tuple #[.int .u8 (v : Int), .int .u8 (f : Int)]) ∧ Below w.heap.size w w' := by
  subst hA hB hc; exact radd_at a b c v f ha hb hv hf w
theorem rsub_to (A B : Int) (c : Bool) (a b k v f : Nat) (hA : A = (a : Int)) (hB : B = (b : Int)) (hc : c.toNat = k) (ha : a < 256) (hb : b < 256) (hv : Hid (nSubV a b k = v)) (hf : Hid (nSubF a b k = f)) (w : World) :
    Calls Try.prog 21 #[.int .u8 A, .int .u8 B, .bool c] w fun e w' => e = .returned (.tuple #[.int .u8 (v : Int), .int .u8 (f : Int)]) ∧ Below w.heap.size w w' := by
  subst hA hB hc; exact rsub_at a b c v f ha hb hv hf w
theorem but_run (g j : Nat) (hg : g < 256) (hj : j < 256) (h : (g ^^^ j) &&& 191 = 0) : bits .andNot .u8 (bits .xor .u8 (g : Int) (j : Int)) 64 = 0 := by
  rw [u8_xor_nat g j hg hj, u8_andNot _ 64 (by omega) (by have := xor8 hg hj; omega) (by omega) (by omega)]
  exact congrArg (fun n : Nat => (n : Int)) h

set_option maxHeartbeats 3200000 in
theorem bytes_any (a b f : Nat) (ha : a < 65536) (hb : b < 65536) (hf : f < 256) (w : World) :
    Calls Try.prog 7 #[.int .u16 (a : Int), .int .u16 (b : Int), .int .u8 (f : Int)] w fun e w' => e = .returned (.bool true) ∧ Below w.heap.size w w' := by
  have HM := Lib.hid (Own.start w)
  obtain ⟨k, hk⟩ : ∃ k, Hid (f % 2 = k) := ⟨_, rfl⟩
  have k1 : k ≤ 1 := by have := hk.out; omega
  have hkf := and_one f k hf hk
  obtain ⟨p, hp⟩ : ∃ p, Hid (wAddV a b k = p) := ⟨_, rfl⟩
  obtain ⟨g, hg⟩ : ∃ g, Hid (wAdcF a b k = g) := ⟨_, rfl⟩
  obtain ⟨q, hq⟩ : ∃ q, Hid (wSubV a b k = q) := ⟨_, rfl⟩
  obtain ⟨h, hh⟩ : ∃ h, Hid (wSbcF a b k = h) := ⟨_, rfl⟩
  have g1 : g < 256 := by rw [← hg.out]; exact wAdcF_lt _ _ _
  have h1 : h < 256 := by rw [← hh.out]; exact wSbcF_lt _ _ _
  obtain ⟨x, hx⟩ : ∃ x, Hid (nAddV (a % 256) (b % 256) k = x) := ⟨_, rfl⟩
  obtain ⟨i, hi⟩ : ∃ i, Hid (nAddF (a % 256) (b % 256) k = i) := ⟨_, rfl⟩
  have x1 : x < 256 := by rw [← hx.out]; exact nAddV_lt _ _ _
  have i1 : i < 256 := by rw [← hi.out]; exact nAddF_lt _ _ _
  obtain ⟨k2, hk2⟩ : ∃ k2, Hid (i % 2 = k2) := ⟨_, rfl⟩
  have k21 : k2 ≤ 1 := by have := hk2.out; omega
  have hki := and_one i k2 i1 hk2
  obtain ⟨y, hy⟩ : ∃ y, Hid (nAddV (a / 256) (b / 256) k2 = y) := ⟨_, rfl⟩
  obtain ⟨j, hj⟩ : ∃ j, Hid (nAddF (a / 256) (b / 256) k2 = j) := ⟨_, rfl⟩
  have y1 : y < 256 := by rw [← hy.out]; exact nAddV_lt _ _ _
  have j1 : j < 256 := by rw [← hj.out]; exact nAddF_lt _ _ _
  obtain ⟨u, hu⟩ : ∃ u, Hid (nSubV (a % 256) (b % 256) k = u) := ⟨_, rfl⟩
  obtain ⟨l, hl⟩ : ∃ l, Hid (nSubF (a % 256) (b % 256) k = l) := ⟨_, rfl⟩
  have u1 : u < 256 := by rw [← hu.out]; exact nSubV_lt _ _ _
  have l1 : l < 256 := by rw [← hl.out]; exact nSubF_lt _ _ _
  obtain ⟨k3, hk3⟩ : ∃ k3, Hid (l % 2 = k3) := ⟨_, rfl⟩
  have k31 : k3 ≤ 1 := by have := hk3.out; omega
  have hkl := and_one l k3 l1 hk3
  obtain ⟨v, hv⟩ : ∃ v, Hid (nSubV (a / 256) (b / 256) k3 = v) := ⟨_, rfl⟩
  obtain ⟨m, hm⟩ : ∃ m, Hid (nSubF (a / 256) (b / 256) k3 = m) := ⟨_, rfl⟩
  have v1 : v < 256 := by rw [← hv.out]; exact nSubV_lt _ _ _
  have m1 : m < 256 := by rw [← hm.out]; exact nSubF_lt _ _ _
  have hA := bytes_add a b k x i k2 y j p g ha hb k1 hx.out hi.out hk2.out hy.out hj.out hp.out hg.out
  have hS := bytes_sub a b k u l k3 v m q h ha hb k1 hu.out hl.out hk3.out hv.out hm.out hq.out hh.out
  have jA := Lib.hid hA.1
  have jS := Lib.hid hS.1
  have e4 := but_run g j g1 j1 hA.2
  have e5 := but_run h m h1 m1 hS.2
  have al := Lib.hid (show a % 256 < 256 by omega)
  have bl := Lib.hid (show b % 256 < 256 by omega)
  have ah := Lib.hid (show a / 256 < 256 by omega)
  have bh := Lib.hid (show b / 256 < 256 by omega)
  have ea := Lib.hid (show (a : Int) % 256 = ((a % 256 : Nat) : Int) by omega)
  have eb := Lib.hid (show (b : Int) % 256 = ((b % 256 : Nat) : Int) by omega)
  have ec := Lib.hid (show (a : Int) / 256 = ((a / 256 : Nat) : Int) by omega)
  have ed := Lib.hid (show (b : Int) / 256 = ((b / 256 : Nat) : Int) by omega)
  clear hA hS
  go_enter Try.func7, Try.ntmps7
  go_wp2_with (first
    | (go_at_call 10; refine (pairsAlive_any _).mono ?_; rintro e w' ⟨rfl, rfl⟩)
    | (go_at_call 8; (with_reducible refine (adc_at a b f k p g ha hb hf hk hp hg _).mono ?_); rintro e w' ⟨rfl, rfl⟩)
    | (go_at_call 9; (with_reducible refine (sbc_at a b f k q h ha hb hf hk hq hh _).mono ?_); rintro e w' ⟨rfl, rfl⟩)
    | (go_at_call 20; (first | (with_reducible refine (radd_to _ _ _ (a % 256) (b % 256) k x i ea.out eb.out (toNat_one k k1) al.out bl.out hx hi _).mono ?_) | (with_reducible refine (radd_to _ _ _ (a / 256) (b / 256) k2 y j ec.out ed.out (toNat_one k2 k21) ah.out bh.out hy hj _).mono ?_)); rintro e w' ⟨rfl, hbl⟩; have HM' := Lib.hid (HM.out.call hbl); clear HM hbl; have HM := HM'; clear HM')
    | (go_at_call 21; (first | (with_reducible refine (rsub_to _ _ _ (a % 256) (b % 256) k u l ea.out eb.out (toNat_one k k1) al.out bl.out hu hl _).mono ?_) | (with_reducible refine (rsub_to _ _ _ (a / 256) (b / 256) k3 v m ec.out ed.out (toNat_one k3 k31) ah.out bh.out hv hm _).mono ?_)); rintro e w' ⟨rfl, hbl⟩; have HM' := Lib.hid (HM.out.call hbl); clear HM hbl; have HM := HM'; clear HM')
    | (go_at_call 16; first | ((with_reducible refine (join_at y x p y1 x1 jA _).mono ?_); rintro e w' ⟨rfl, rfl⟩) | ((with_reducible refine (join_at v u q v1 u1 jS _).mono ?_); rintro e w' ⟨rfl, rfl⟩)))
  go_ret
  exact ⟨rfl, Own.fin HM⟩

end Go.Proofs.Ytogohngbafnokaa
