/-
  The document's Sub, by one contract.
-/
import Derived.Test.YthfkeiidkmkkoaaSumRef
namespace Go.Proofs.Ythfkeiidkmkkoaa
open Go.RowKit

theorem one_to (c : Bool) (k : Nat) (h : Hid (c.toNat = k)) (w : World) : Calls Try.prog 29 #[.bool c] w fun e w' => e = .returned (.int .i64 (k : Int)) ∧ w = w' := by
  rw [← h.out]; exact one_at c w
theorem ret_pair' {a b : Int} {v f : Nat} (h : a = (v : Int)) (h' : b = (f : Int)) : (Ending.returned (.tuple #[.int .u8 a, .int .u8 b]) : Ending) = .returned (.tuple #[.int .u8 (v : Int), .int .u8 (f : Int)]) := by rw [h, h']
theorem signed_bd (v : Nat) (h : v < 256) : -128 ≤ signedOf v ∧ signedOf v ≤ 127 := by unfold signedOf; split <;> omega
theorem ble_iff (a b : Nat) (x : Bool) (h : x = true ↔ a ≤ b) : x = Nat.ble a b := by rw [Bool.eq_iff_iff, h, Nat.ble_eq]
theorem radd_key (a b k v f : Nat) (s z y x : Bool) (ha : a < 256) (hb : b < 256) (_hk : k ≤ 1) (hv : nAddV a b k = v) (hf : nAddF a b k = f) (hs : nS v = s ∧ nZ v = z ∧ nBit 32 v = y ∧ nBit 8 v = x) (H P C : Bool)
    (hH : H = true ↔ (15 : Int) < (a : Int) % 16 + (b : Int) % 16 + k) (hP : P = true ↔ (signedOf a + signedOf b + k < -128 ∨ 127 < signedOf a + signedOf b + k)) (hC : C = true ↔ (255 : Int) < (a : Int) + b + k) : nByte s z y H x P false C = f := by
  obtain ⟨rfl, rfl, rfl, rfl⟩ := hs
  rw [← hf]
  unfold nAddF nAddFof
  rw [hv]
  have e1 : H = Nat.ble 16 (Nat.add (Nat.add (Nat.mod a 16) (Nat.mod b 16)) k) := ble_iff _ _ _ (by rw [hH]; show _ ↔ 16 ≤ a % 16 + b % 16 + k; omega)
  have e2 : C = Nat.ble 256 (Nat.add (Nat.add a b) k) := ble_iff _ _ _ (by rw [hC]; show _ ↔ 256 ≤ a + b + k; omega)
  have e3 : P = nOver (Nat.add (Nat.add (nHalf a) (nHalf b)) k) := by
    rw [Bool.eq_iff_iff, hP]
    unfold nOver nHalf signedOf
    rw [Bool.not_eq_true', Bool.and_eq_false_iff]
    simp only [← Bool.not_eq_true, Nat.ble_eq]
    show _ ↔ (¬ 128 ≤ (a + 128) % 256 + (b + 128) % 256 + k ∨ ¬ (a + 128) % 256 + (b + 128) % 256 + k ≤ 383)
    split <;> split <;> omega
  rw [e1, e2, e3]
theorem rsub_key (a b k v f : Nat) (s z y x : Bool) (ha : a < 256) (hb : b < 256) (_hk : k ≤ 1) (hv : nSubV a b k = v) (hf : nSubF a b k = f) (hs : nS v = s ∧ nZ v = z ∧ nBit 32 v = y ∧ nBit 8 v = x) (H P C : Bool)
    (hH : H = true ↔ (a : Int) % 16 - (b : Int) % 16 - k < 0) (hP : P = true ↔ (signedOf a - signedOf b - k < -128 ∨ 127 < signedOf a - signedOf b - k)) (hC : C = true ↔ (a : Int) - b - k < 0) : nByte s z y H x P true C = f := by
  obtain ⟨rfl, rfl, rfl, rfl⟩ := hs
  rw [← hf]
  unfold nSubF nSubFof
  rw [hv]
  have e1 : H = Nat.ble (Nat.add (Nat.mod a 16) 1) (Nat.add (Nat.mod b 16) k) := ble_iff _ _ _ (by rw [hH]; show _ ↔ a % 16 + 1 ≤ b % 16 + k; omega)
  have e2 : C = Nat.ble (Nat.add a 1) (Nat.add b k) := ble_iff _ _ _ (by rw [hC]; show _ ↔ a + 1 ≤ b + k; omega)
  have e3 : P = nOver (Nat.sub (Nat.add (nHalf a) 256) (Nat.add (nHalf b) k)) := by
    rw [Bool.eq_iff_iff, hP]
    unfold nOver nHalf signedOf
    rw [Bool.not_eq_true', Bool.and_eq_false_iff]
    simp only [← Bool.not_eq_true, Nat.ble_eq]
    show _ ↔ (¬ 128 ≤ (a + 128) % 256 + 256 - ((b + 128) % 256 + k) ∨ ¬ (a + 128) % 256 + 256 - ((b + 128) % 256 + k) ≤ 383)
    split <;> split <;> omega
  rw [e1, e2, e3]
theorem add_value' (a b k v : Nat) (hv : nAddV a b k = v) : (((a : Int) + (b : Int) + (k : Int))).tmod 256 = (v : Int) := by
  rw [Int.tmod_eq_emod_of_nonneg (by omega)]
  have : (a + b + k) % 256 = v := hv
  omega
theorem sub_value' (a b k v : Nat) (ha : a < 256) (hb : b < 256) (hk : k ≤ 1) (hv : nSubV a b k = v) : (((a : Int) - (b : Int) - (k : Int)) + 512).tmod 256 = (v : Int) := by
  rw [Int.tmod_eq_emod_of_nonneg (by omega)]
  have : (a + 512 - (b + k)) % 256 = v := hv
  omega

set_option maxHeartbeats 1600000 in
theorem rsub_at (a b : Nat) (c : Bool) (v f : Nat) (ha : a < 256) (hb : b < 256) (hv : Hid (nSubV a b c.toNat = v)) (hf : Hid (nSubF a b c.toNat = f)) (w : World) :
    Calls Try.prog 23 #[.int .u8 (a : Int), .int .u8 (b : Int), .bool c] w fun e w' => e = .returned (.tuple #[.int .u8 (v : Int), .int .u8 (f : Int)]) ∧ Below w.heap.size w w' := by
  have HM := Lib.hid (Own.start w)
  obtain ⟨k, hk⟩ : ∃ k, Hid (c.toNat = k) := ⟨_, rfl⟩
  have k1 : k ≤ 1 := by rw [← hk.out]; cases c <;> decide
  rw [hk.out] at hv hf
  have v1 : v < 256 := by rw [← hv.out]; exact nSubV_lt _ _ _
  obtain ⟨s, z, y, x, hs⟩ : ∃ s z y x, Hid (nS v = s ∧ nZ v = z ∧ nBit 32 v = y ∧ nBit 8 v = x) := ⟨_, _, _, _, rfl, rfl, rfl, rfl⟩
  have hkey := rsub_key a b k v f s z y x ha hb k1 hv.out hf.out hs.out
  have hv3 := sub_value' a b k v ha hb k1 hv.out
  have h16a : (a : Int).tmod 16 = (a : Int) % 16 := Int.tmod_eq_emod_of_nonneg (by omega)
  have h16b : (b : Int).tmod 16 = (b : Int) % 16 := Int.tmod_eq_emod_of_nonneg (by omega)
  obtain ⟨p, hp⟩ : ∃ p, Hid (signedOf a = p) := ⟨_, rfl⟩
  obtain ⟨q, hq⟩ : ∃ q, Hid (signedOf b = q) := ⟨_, rfl⟩
  have pb := signed_bd a ha
  have qb := signed_bd b hb
  rw [hp.out] at pb hkey
  rw [hq.out] at qb hkey
  have HK : Hid (∀ H P C : Bool, (H = true ↔ (a : Int) % 16 - (b : Int) % 16 - k < 0) → (P = true ↔ (p - q - k < -128 ∨ 127 < p - q - k)) → (C = true ↔ (a : Int) - b - k < 0) → Hid (nByte s z y H x P true C = f)) :=
    fun H P C hH hP hC => hkey H P C hH hP hC
  have tg1 : Hid True := trivial
  clear hv hf hkey
  go_enter Try.func23, Try.ntmps23
  go_wp2_with (first
    | ((with_reducible apply own_box HM); exact rfl; (conv => lhs; whnf); exact rfl; exact rfl; (first | (clear tg1; intro w' g1 HM') | (clear tg2; intro w' g2 HM') | (clear tg3; intro w' g3 HM') | (clear tg4; intro w' g4 HM') | intro w' g' HM'); clear HM; have HM := HM'; clear HM'; all_goals skip) | ((with_reducible apply own_alloc HM); exact rfl; (first | (with_reducible exact zeroF)); exact rfl; (first | (clear tg1; intro w' g1 HM') | (clear tg2; intro w' g2 HM') | (clear tg3; intro w' g3 HM') | (clear tg4; intro w' g4 HM') | intro w' g' HM'); clear HM; have HM := HM'; clear HM'; all_goals skip) | ((with_reducible apply own_cell HM); exact rfl; exact rfl; (first | (with_reducible exact oneBool)); (first | with_reducible exact .z | with_reducible exact .s .z | with_reducible exact .s (.s .z) | with_reducible exact .s (.s (.s .z)) | with_reducible exact .s (.s (.s (.s .z))) | with_reducible exact .s (.s (.s (.s (.s .z))))); (focus repeat' (first | with_reducible exact .z | with_reducible apply Drop.s)); exact rfl; all_goals skip) | ((with_reducible apply own_load HM); exact rfl; exact rfl; (first | (with_reducible exact aggF)); (first | with_reducible exact .z | with_reducible exact .s .z | with_reducible exact .s (.s .z) | with_reducible exact .s (.s (.s .z)) | with_reducible exact .s (.s (.s (.s .z))) | with_reducible exact .s (.s (.s (.s (.s .z))))); (focus repeat' (first | with_reducible exact .z | with_reducible apply Drop.s)); (focus repeat' (first | with_reducible exact .z | with_reducible apply Take.s)); exact rfl; all_goals skip) | ((with_reducible apply own_store HM); exact rfl; exact rfl; (conv => lhs; whnf); exact rfl; (first | with_reducible exact .z | with_reducible exact .s .z | with_reducible exact .s (.s .z) | with_reducible exact .s (.s (.s .z)) | with_reducible exact .s (.s (.s (.s .z))) | with_reducible exact .s (.s (.s (.s (.s .z))))); (focus repeat' (first | with_reducible exact .z | with_reducible apply Over.p | with_reducible apply Over.s)); (first | with_reducible exact .z | with_reducible exact .s .z | with_reducible exact .s (.s .z) | with_reducible exact .s (.s (.s .z)) | with_reducible exact .s (.s (.s (.s .z))) | with_reducible exact .s (.s (.s (.s (.s .z))))); (first | (with_reducible exact (aggF).size) | (with_reducible exact (oneBool).size)); exact rfl; exact rfl; exact rfl; exact rfl; intro w' HM'; clear HM; have HM := HM'; clear HM'; all_goals skip)
    | (go_at_call 29; (with_reducible refine (one_to c k hk _).mono ?_); rintro e w' ⟨rfl, rfl⟩)
    | (go_at_call 30; first | ((with_reducible refine (signed_at a ha p hp _).mono ?_); rintro e w' ⟨rfl, rfl⟩) | ((with_reducible refine (signed_at b hb q hq _).mono ?_); rintro e w' ⟨rfl, rfl⟩))
    | (go_at_call 24; (with_reducible refine (rshape_at v s z y x v1 hs _).mono ?_); rintro e w' ⟨rfl, hb⟩; have HM' := Lib.hid (HM.out.call hb); clear HM hb; have HM := HM'; clear HM')
    | (go_at_call 22; refine (byte_at _ _ _ _ _ _ _ _ f (HK.out _ _ _ (by first | (simp; done) | (simp; omega)) (by first | (simp; done) | (simp; omega)) (by first | (simp; done) | (simp; omega))) _).mono ?_; rintro e w' ⟨rfl, hb⟩; have HM' := Lib.hid (HM.out.call hb); clear HM hb; have HM := HM'; clear HM'))
  all_goals
    go_ret2
    exact ⟨ret_pair' rfl rfl, Own.fin HM⟩

end Go.Proofs.Ythfkeiidkmkkoaa
