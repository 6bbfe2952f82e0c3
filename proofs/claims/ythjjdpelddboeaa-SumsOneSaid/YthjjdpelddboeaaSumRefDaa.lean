/-
  The document's Daa, by one contract.
-/
import Derived.Test.YthjjdpelddboeaaSumRefMore
namespace Go.Proofs.Ythjjdpelddboeaa
open Go.RowKit

theorem daa_up (a L H v : Nat) (h : (a + L + H) % 256 = v) : ((a : Int) + (L : Int) + (H : Int) + 512).tmod 256 = (v : Int) := by
  rw [Int.tmod_eq_emod_of_nonneg (by omega)]; omega
theorem daa_down (a L H v : Nat) (hL : L ≤ 6) (hH : H ≤ 96) (h : (a + 512 - (L + H)) % 256 = v) : ((a : Int) - (L : Int) - (H : Int) + 512).tmod 256 = (v : Int) := by
  rw [Int.tmod_eq_emod_of_nonneg (by omega)]; omega
theorem rlow_cases (a f : Nat) : (nBit 16 f = true ∧ nLow a f = true) ∨ (nBit 16 f = false ∧ (9 : Int) < (a : Int) % 16 ∧ nLow a f = true) ∨ (nBit 16 f = false ∧ (a : Int) % 16 ≤ 9 ∧ nLow a f = false) := by
  unfold nLow
  cases h : nBit 16 f
  · right
    rw [Bool.false_or]
    by_cases h : a % 16 ≤ 9
    · right
      refine ⟨rfl, by omega, ?_⟩
      rw [← Bool.not_eq_true, Nat.ble_eq]; show ¬ (10 ≤ a % 16); omega
    · left
      refine ⟨rfl, by omega, ?_⟩
      rw [Nat.ble_eq]; show 10 ≤ a % 16; omega
  · left
    exact ⟨rfl, by rw [Bool.true_or]⟩
theorem rhigh_cases (a f : Nat) : (nBit 1 f = true ∧ nHigh a f = true) ∨ (nBit 1 f = false ∧ (153 : Int) < (a : Int) ∧ nHigh a f = true) ∨ (nBit 1 f = false ∧ (a : Int) ≤ 153 ∧ nHigh a f = false) := by
  unfold nHigh
  cases h : nBit 1 f
  · right
    rw [Bool.false_or]
    by_cases h : a ≤ 153
    · right
      refine ⟨rfl, by omega, ?_⟩
      rw [← Bool.not_eq_true, Nat.ble_eq]; omega
    · left
      refine ⟨rfl, by omega, ?_⟩
      rw [Nat.ble_eq]; omega
  · left
    exact ⟨rfl, by rw [Bool.true_or]⟩

set_option maxHeartbeats 3200000 in
theorem rdaa_at (a f v g : Nat) (ha : a < 256) (hf : f < 256) (hv : Hid (nDaaV a f = v)) (hg : Hid (nDaaF a f = g)) (w : World) :
    Calls Try.prog 34 #[.int .u8 (a : Int), .int .u8 (f : Int)] w fun e w' => e = .returned (.tuple #[.int .u8 (v : Int), .int .u8 (g : Int)]) ∧ Below w.heap.size w w' := by
  have HM := Lib.hid (Own.start w)
  have tg1 : Hid True := trivial
  have tg2 : Hid True := trivial
  have v1 : v < 256 := by
    rw [← hv.out]; unfold nDaaV; cases nBit 2 f <;> exact Nat.mod_lt _ (by omega)
  have h16a : (a : Int).tmod 16 = (a : Int) % 16 := Int.tmod_eq_emod_of_nonneg (by omega)
  obtain ⟨o128, o64, o32, h, o8, o4, n, c, ho⟩ : ∃ s z y h x p n c, Hid (nBit 128 f = s ∧ nBit 64 f = z ∧ nBit 32 f = y ∧ nBit 16 f = h ∧ nBit 8 f = x ∧ nBit 4 f = p ∧ nBit 2 f = n ∧ nBit 1 f = c) := ⟨_, _, _, _, _, _, _, _, rfl, rfl, rfl, rfl, rfl, rfl, rfl, rfl⟩
  obtain ⟨-, -, -, e16, -, -, e2, e1⟩ := ho.out
  obtain ⟨s, z, y, x, hs⟩ : ∃ s z y x, Hid (nS v = s ∧ nZ v = z ∧ nBit 32 v = y ∧ nBit 8 v = x) := ⟨_, _, _, _, rfl, rfl, rfl, rfl⟩
  obtain ⟨p, hp⟩ : ∃ p, Hid (nPar v = p) := ⟨_, rfl⟩
  obtain ⟨hi, hhi⟩ : ∃ hi, nHigh a f = hi := ⟨_, rfl⟩
  obtain ⟨lo, hlo⟩ : ∃ lo, nLow a f = lo := ⟨_, rfl⟩
  have KEY : Hid (∀ B : Bool, (B = true ↔ ¬ (a : Int) / 16 % 2 = (v : Int) / 16 % 2) → Hid (nByte s z y B x p n hi = g)) := by
    intro B hB
    show _ = _
    rw [← hg.out]
    unfold nDaaF nDaaFof
    rw [hv.out, hs.out.1, hs.out.2.1, hs.out.2.2.1, hs.out.2.2.2, hp.out, e2, hhi]
    have e : B = xor (nBit 16 a) (nBit 16 v) := by
      rw [Bool.eq_iff_iff, hB]
      rw [← bit_of a 16 ((a : Int) / 16 % 2) (by omega), ← bit_of v 16 ((v : Int) / 16 % 2) (by omega)]
      have h1 : (a : Int) / 16 % 2 = 0 ∨ (a : Int) / 16 % 2 = 1 := by omega
      have h2 : (v : Int) / 16 % 2 = 0 ∨ (v : Int) / 16 % 2 = 1 := by omega
      rcases h1 with h1 | h1 <;> rcases h2 with h2 | h2 <;> rw [h1, h2] <;> decide
    rw [e]
  have hV := hv.out
  unfold nDaaV at hV
  have c1 := rlow_cases a f
  have c2 := rhigh_cases a f
  rw [e16, hlo] at c1
  rw [e1, hhi] at c2
  rw [e2, hlo, hhi] at hV
  clear hv hg e16 e2 e1 hhi hlo
  rcases c1 with ⟨rfl, rfl⟩ | ⟨rfl, l2, rfl⟩ | ⟨rfl, l2, rfl⟩
  all_goals rcases c2 with ⟨rfl, rfl⟩ | ⟨rfl, k2, rfl⟩ | ⟨rfl, k2, rfl⟩
  all_goals cases n
  all_goals
    first
      | have hv2 := daa_up a 6 96 v hV
      | have hv2 := daa_up a 6 0 v hV
      | have hv2 := daa_up a 0 96 v hV
      | have hv2 := daa_up a 0 0 v hV
      | have hv2 := daa_down a 6 96 v (by omega) (by omega) hV
      | have hv2 := daa_down a 6 0 v (by omega) (by omega) hV
      | have hv2 := daa_down a 0 96 v (by omega) (by omega) hV
      | have hv2 := daa_down a 0 0 v (by omega) (by omega) hV
    simp only [Int.cast_ofNat_Int, Int.add_zero, Int.sub_zero] at hv2
    clear hV
    go_enter Try.func34, Try.ntmps34
    go_wp2_with (first
      | ((with_reducible apply own_box HM); exact rfl; (conv => lhs; whnf); exact rfl; exact rfl; (first | (clear tg1; intro w' g1 HM') | (clear tg2; intro w' g2 HM') | (clear tg3; intro w' g3 HM') | (clear tg4; intro w' g4 HM') | intro w' g' HM'); clear HM; have HM := HM'; clear HM'; all_goals skip) | ((with_reducible apply own_alloc HM); exact rfl; (first | (with_reducible exact zeroF)); exact rfl; (first | (clear tg1; intro w' g1 HM') | (clear tg2; intro w' g2 HM') | (clear tg3; intro w' g3 HM') | (clear tg4; intro w' g4 HM') | intro w' g' HM'); clear HM; have HM := HM'; clear HM'; all_goals skip) | ((with_reducible apply own_cell HM); exact rfl; exact rfl; (first | (with_reducible exact oneBool)); (first | with_reducible exact .z | with_reducible exact .s .z | with_reducible exact .s (.s .z) | with_reducible exact .s (.s (.s .z)) | with_reducible exact .s (.s (.s (.s .z))) | with_reducible exact .s (.s (.s (.s (.s .z))))); (focus repeat' (first | with_reducible exact .z | with_reducible apply Drop.s)); exact rfl; all_goals skip) | ((with_reducible apply own_load HM); exact rfl; exact rfl; (first | (with_reducible exact aggF)); (first | with_reducible exact .z | with_reducible exact .s .z | with_reducible exact .s (.s .z) | with_reducible exact .s (.s (.s .z)) | with_reducible exact .s (.s (.s (.s .z))) | with_reducible exact .s (.s (.s (.s (.s .z))))); (focus repeat' (first | with_reducible exact .z | with_reducible apply Drop.s)); (focus repeat' (first | with_reducible exact .z | with_reducible apply Take.s)); exact rfl; all_goals skip) | ((with_reducible apply own_store HM); exact rfl; exact rfl; (conv => lhs; whnf); exact rfl; (first | with_reducible exact .z | with_reducible exact .s .z | with_reducible exact .s (.s .z) | with_reducible exact .s (.s (.s .z)) | with_reducible exact .s (.s (.s (.s .z))) | with_reducible exact .s (.s (.s (.s (.s .z))))); (focus repeat' (first | with_reducible exact .z | with_reducible apply Over.p | with_reducible apply Over.s)); (first | with_reducible exact .z | with_reducible exact .s .z | with_reducible exact .s (.s .z) | with_reducible exact .s (.s (.s .z)) | with_reducible exact .s (.s (.s (.s .z))) | with_reducible exact .s (.s (.s (.s (.s .z))))); (first | (with_reducible exact (aggF).size) | (with_reducible exact (oneBool).size)); exact rfl; exact rfl; exact rfl; exact rfl; intro w' HM'; clear HM; have HM := HM'; clear HM'; all_goals skip)
      | (go_at_call 42; (with_reducible refine (of_to f o128 o64 o32 _ o8 o4 _ _ hf ho _).mono ?_); rintro e w' ⟨rfl, hb⟩; have HM' := Lib.hid (HM.out.call hb); clear HM hb; have HM := HM'; clear HM')
      | (go_at_call 22; (with_reducible refine (rshape_at v s z y x v1 hs _).mono ?_); rintro e w' ⟨rfl, hb⟩; have HM' := Lib.hid (HM.out.call hb); clear HM hb; have HM := HM'; clear HM')
      | (go_at_call 20; (with_reducible refine (rparity_at v p v1 hp _).mono ?_); rintro e w' ⟨rfl, rfl⟩)
      | (go_at_call 21; (with_reducible refine (byte_at s z y _ x p _ _ g (KEY.out _ (by simp)) _).mono ?_); rintro e w' ⟨rfl, hb⟩; have HM' := Lib.hid (HM.out.call hb); clear HM hb; have HM := HM'; clear HM'))
    go_ret2
    exact ⟨pair_eq rfl rfl, Own.fin HM⟩

end Go.Proofs.Ythjjdpelddboeaa
