import Derived.Test.YtljjgakfnajifaaGreatDoorZSumCode3
import Derived.Test.YtljjgakfnajifaaGreatDoorZSumChkC
namespace Go.Proofs.YtljjgakfnajifaaGreatDoor
open Go.RowKit
theorem bit2_of (f : Nat) (h : f < 256) : (f &&& 2 = 0 ∧ nBit 2 f = false) ∨ (f &&& 2 = 2 ∧ nBit 2 f = true) := by
  have h := allB_at (p := fun f => or (and (Nat.beq (Nat.land f 2) 0) (not (nBit 2 f))) (and (Nat.beq (Nat.land f 2) 2) (nBit 2 f))) (n := 256) (by decide +kernel) f h
  simp only [Bool.or_eq_true, Bool.and_eq_true, Nat.beq_eq, Bool.not_eq_true'] at h
  exact h
theorem bit16_of (f : Nat) (h : f < 256) : (f &&& 16 = 0 ∧ nBit 16 f = false) ∨ (f &&& 16 = 16 ∧ nBit 16 f = true) := by
  have h := allB_at (p := fun f => or (and (Nat.beq (Nat.land f 16) 0) (not (nBit 16 f))) (and (Nat.beq (Nat.land f 16) 16) (nBit 16 f))) (n := 256) (by decide +kernel) f h
  simp only [Bool.or_eq_true, Bool.and_eq_true, Nat.beq_eq, Bool.not_eq_true'] at h
  exact h
theorem andk (f k m : Nat) (h : f < 256) (hk : k < 256) (hm : f &&& k = m) : bits .and .u8 (f : Int) (k : Int) = (m : Int) := by
  rw [u8_and_nat f k h hk, hm]
theorem low_cases (a f : Nat) (hf : f < 256) : (f &&& 16 = 16 ∧ true = nLow a f) ∨ (f &&& 16 = 0 ∧ decide ((9 : Int) < (a : Int) % 16) = nLow a f) := by
  unfold nLow
  rcases bit16_of f hf with ⟨h1, h2⟩ | ⟨h1, h2⟩
  · right
    rw [h2, Bool.false_or, Bool.eq_iff_iff, decide_eq_true_eq, Nat.ble_eq]
    refine ⟨h1, ?_⟩
    show _ ↔ 10 ≤ a % 16
    omega
  · left
    exact ⟨h1, by rw [h2, Bool.true_or]⟩
theorem high_cases (a f : Nat) (hf : f < 256) : (f &&& 1 = 1 ∧ true = nHigh a f) ∨ (f &&& 1 = 0 ∧ decide ((153 : Int) < (a : Int)) = nHigh a f) := by
  unfold nHigh
  rcases bit1_of f hf with ⟨h1, h2⟩ | ⟨h1, h2⟩
  · right
    rw [h2, Bool.false_or, Bool.eq_iff_iff, decide_eq_true_eq, Nat.ble_eq]
    refine ⟨h1, ?_⟩
    omega
  · left
    exact ⟨h1, by rw [h2, Bool.true_or]⟩
set_option maxHeartbeats 3200000 in
set_option maxRecDepth 100000 in
theorem daa_at (a f v g : Nat) (ha : a < 256) (hf : f < 256) (hv : Hid (nDaaV a f = v)) (hg : Hid (nDaaF a f = g)) (w : World) :
    Calls Tryz.prog 215 #[.int .u8 (a : Int), .int .u8 (f : Int)] w fun e w' => e = .returned (.tuple #[.int .u8 (v : Int), .int .u8 (g : Int)]) ∧ w = w' := by
  have v1 : v < 256 := by rw [← hv.out]; exact nDaaV_lt _ _
  have h15 : bits .and .u8 (a : Int) 15 = (a : Int) % 16 := u8_and15 _ (by omega) (by omega)
  obtain ⟨s, hs⟩ : ∃ s, Hid (nBitsF v false = s) := ⟨_, rfl⟩
  have s1 : s < 256 := by rw [← hs.out]; exact nBitsF_lt _ _
  have hG : cDaaOf v a f = g := by rw [← hg.out, ← daa_bits a f ha hf]; unfold cDaa; rw [hv.out]
  unfold cDaaOf at hG
  rw [hs.out] at hG
  have hV := hv.out
  clear hv hg
  unfold nDaaV at hV
  have hlow := low_cases a f hf
  have hhigh := high_cases a f hf
  obtain ⟨lb, hlb⟩ : ∃ lb, nLow a f = lb := ⟨_, rfl⟩
  obtain ⟨hb, hhb⟩ : ∃ hb, nHigh a f = hb := ⟨_, rfl⟩
  rw [hlb] at hlow hV
  rw [hhb] at hhigh hV hG
  clear hlb hhb
  obtain ⟨L, hL⟩ : ∃ L, cond lb 6 0 = L := ⟨_, rfl⟩
  obtain ⟨H, hH⟩ : ∃ H, cond hb 96 0 = H := ⟨_, rfl⟩
  obtain ⟨K, hK⟩ : ∃ K, cond hb 1 0 = K := ⟨_, rfl⟩
  have L1 : (L : Int) ≤ 6 := by rw [← hL]; cases lb <;> decide
  have H1 : (H : Int) ≤ 96 := by rw [← hH]; cases hb <;> decide
  have K1 : (K : Int) ≤ 1 := by rw [← hK]; cases hb <;> decide
  have HB : Hid (hb = true ↔ (H : Int) ≠ 0) := by show _ ↔ _; rw [← hH]; cases hb <;> decide
  rw [hL, hH] at hV
  rw [hK] at hG
  have HL := Lib.hid hL
  have HH := Lib.hid hH
  have HK := Lib.hid hK
  clear hL hH hK
  have L0 : L ≤ 6 := by omega
  have H0 : H ≤ 96 := by omega
  have K0 : K < 256 := by omega
  rcases hlow with ⟨l1, l3⟩ | ⟨l1, l3⟩
  all_goals
    have hl := andk f 16 _ hf (by omega) l1
    have HL2 := Lib.hid l3
    clear l1 l3
    rcases hhigh with ⟨k1, k3⟩ | ⟨k1, k3⟩
  all_goals
    have hh := andk f 1 _ hf (by omega) k1
    have HH2 := Lib.hid k3
    clear k1 k3
    rcases bit2_of f hf with ⟨n1, n2⟩ | ⟨n1, n2⟩
  all_goals
    rw [n2] at hV
    rw [show Nat.land f 2 = f &&& 2 from rfl, n1] at hG
    have hn := andk f 2 _ hf (by omega) n1
    have HG := Lib.hid hG
    first
      | (have hv2 : ((a : Int) + (L : Int) + (H : Int)) % 256 = (v : Int) := by (have hV' : (a + L + H) % 256 = v := hV; omega))
      | (have hv2 : ((a : Int) - (L : Int) - (H : Int)) % 256 = (v : Int) := by (have hV' : (a + 512 - (L + H)) % 256 = v := hV; omega))
    clear hV hG n1 n2 L0 H0
    simp only [Int.cast_ofNat_Int] at hl hh hn
    go_enter Tryz.func215, Tryz.ntmps215
    go_wp2_with (first
      | (go_at_call 231; first | (refine (when_at _ 6 lb L HL2.out HL _).mono ?_; rintro e w' ⟨rfl, rfl⟩) | (refine (when_at _ 96 hb H HH2.out HH _).mono ?_; rintro e w' ⟨rfl, rfl⟩) | (refine (when_at _ 1 hb K (by have hq := HB.out; rw [Bool.eq_iff_iff, hq]; simp) HK _).mono ?_; rintro e w' ⟨rfl, rfl⟩))
      | (go_at_call 240; (with_reducible refine (shapeAndParity_at v s v1 hs _).mono ?_); rintro e w' ⟨rfl, rfl⟩))
    go_ret2
    refine ⟨ret_pair rfl ?_, rfl⟩
    rw [← HG.out]
    clear hl hh hn
    simp (disch := exact bS) only [u8_and, u8_or, u8_xor, Int.reduceToNat, Int.toNat_natCast]
    rfl
end Go.Proofs.YtljjgakfnajifaaGreatDoor
