/-
  The document's Adc and Sbc, each by one contract.
-/
import Derived.Test.YtogohngbafnokaaPairRef
namespace Go.Proofs.Ytogohngbafnokaa
open Go.RowKit

set_option maxHeartbeats 1600000 in
theorem wradc_at (a b f k v g : Nat) (ha : a < 65536) (hb : b < 65536) (hf : f < 256) (hk : Hid (f % 2 = k)) (hv : Hid (wAddV a b k = v)) (hg : Hid (wAdcF a b k = g)) (w : World) :
    Calls Try.prog 13 #[.int .u16 (a : Int), .int .u16 (b : Int), .int .u8 (f : Int)] w fun e w' => e = .returned (.tuple #[.int .u16 (v : Int), .int .u8 (g : Int)]) ∧ Below w.heap.size w w' := by
  have HM := Lib.hid (Own.start w)
  have k1 : k ≤ 1 := by have := hk.out; omega
  have hf1 : (f : Int).tmod 2 = (k : Int) := by
    rw [Int.tmod_eq_emod_of_nonneg (by omega)]
    have := hk.out
    omega
  have v1 : v < 65536 := by rw [← hv.out]; exact wAddV_lt _ _ _
  obtain ⟨s, z, y, x, hs⟩ : ∃ s z y x, Hid (nS (wHigh v) = s ∧ nZ v = z ∧ nBit 32 (wHigh v) = y ∧ nBit 8 (wHigh v) = x) := ⟨_, _, _, _, rfl, rfl, rfl, rfl⟩
  have hkey := wradc_key a b k v g s z y x ha hb k1 hv.out hg.out hs.out
  have HN : Hid (((a : Int) + (b : Int) + (k : Int)) % 65536 = (v : Int)) := by
    have h : (a + b + k) % 65536 = v := hv.out
    show _ = _
    omega
  have h12a : (a : Int).tmod 4096 = (a : Int) % 4096 := Int.tmod_eq_emod_of_nonneg (by omega)
  have h12b : (b : Int).tmod 4096 = (b : Int) % 4096 := Int.tmod_eq_emod_of_nonneg (by omega)
  obtain ⟨p, hp⟩ : ∃ p, Hid (signedW a = p) := ⟨_, rfl⟩
  obtain ⟨q, hq⟩ : ∃ q, Hid (signedW b = q) := ⟨_, rfl⟩
  have pb := signedW_bd a ha
  have qb := signedW_bd b hb
  rw [hp.out] at pb hkey
  rw [hq.out] at qb hkey
  have HK : Hid (∀ H P C : Bool, (H = true ↔ (4095 : Int) < (a : Int) % 4096 + (b : Int) % 4096 + k) → (P = true ↔ (p + q + k < -32768 ∨ 32767 < p + q + k)) → (C = true ↔ (65535 : Int) < (a : Int) + b + k) → Hid (nByte s z y H x P false C = g)) :=
    fun H P C hH hP hC => hkey H P C hH hP hC
  have tg1 : Hid True := trivial
  have tg2 : Hid True := trivial
  clear hv hg hkey hk
  go_enter Try.func13, Try.ntmps13
  go_wp2_with (first
    | ((with_reducible apply own_box HM); exact rfl; (conv => lhs; whnf); exact rfl; exact rfl; (first | (clear tg1; intro w' g1 HM') | (clear tg2; intro w' g2 HM') | (clear tg3; intro w' g3 HM') | (clear tg4; intro w' g4 HM') | intro w' g' HM'); clear HM; have HM := HM'; clear HM'; all_goals skip) | ((with_reducible apply own_alloc HM); exact rfl; (first | (with_reducible exact zeroF)); exact rfl; (first | (clear tg1; intro w' g1 HM') | (clear tg2; intro w' g2 HM') | (clear tg3; intro w' g3 HM') | (clear tg4; intro w' g4 HM') | intro w' g' HM'); clear HM; have HM := HM'; clear HM'; all_goals skip) | ((with_reducible apply own_cell HM); exact rfl; exact rfl; (first | (with_reducible exact oneBool)); (first | with_reducible exact .z | with_reducible exact .s .z | with_reducible exact .s (.s .z) | with_reducible exact .s (.s (.s .z)) | with_reducible exact .s (.s (.s (.s .z))) | with_reducible exact .s (.s (.s (.s (.s .z))))); (focus repeat' (first | with_reducible exact .z | with_reducible apply Drop.s)); exact rfl; all_goals skip) | ((with_reducible apply own_load HM); exact rfl; exact rfl; (first | (with_reducible exact aggF)); (first | with_reducible exact .z | with_reducible exact .s .z | with_reducible exact .s (.s .z) | with_reducible exact .s (.s (.s .z)) | with_reducible exact .s (.s (.s (.s .z))) | with_reducible exact .s (.s (.s (.s (.s .z))))); (focus repeat' (first | with_reducible exact .z | with_reducible apply Drop.s)); (focus repeat' (first | with_reducible exact .z | with_reducible apply Take.s)); exact rfl; all_goals skip) | ((with_reducible apply own_store HM); exact rfl; exact rfl; (conv => lhs; whnf); exact rfl; (first | with_reducible exact .z | with_reducible exact .s .z | with_reducible exact .s (.s .z) | with_reducible exact .s (.s (.s .z)) | with_reducible exact .s (.s (.s (.s .z))) | with_reducible exact .s (.s (.s (.s (.s .z))))); (focus repeat' (first | with_reducible exact .z | with_reducible apply Over.p | with_reducible apply Over.s)); (first | with_reducible exact .z | with_reducible exact .s .z | with_reducible exact .s (.s .z) | with_reducible exact .s (.s (.s .z)) | with_reducible exact .s (.s (.s (.s .z))) | with_reducible exact .s (.s (.s (.s (.s .z))))); (first | (with_reducible exact (aggF).size) | (with_reducible exact (oneBool).size)); exact rfl; exact rfl; exact rfl; exact rfl; intro w' HM'; clear HM; have HM := HM'; clear HM'; all_goals skip)
    | (go_at_call 25; (with_reducible refine (modulo_at _ v HN _).mono ?_); rintro e w' ⟨rfl, rfl⟩)
    | (go_at_call 29; first | ((with_reducible refine (signedW_at a ha p hp _).mono ?_); rintro e w' ⟨rfl, rfl⟩) | ((with_reducible refine (signedW_at b hb q hq _).mono ?_); rintro e w' ⟨rfl, rfl⟩))
    | (go_at_call 27; (with_reducible refine (wshape_at v s z y x v1 hs _).mono ?_); rintro e w' ⟨rfl, hb⟩; have HM' := Lib.hid (HM.out.call hb); clear HM hb; have HM := HM'; clear HM')
    | (go_at_call 28; refine (byte_at _ _ _ _ _ _ _ _ g (HK.out _ _ _ (by first | (simp; done) | (simp; omega)) (by first | (simp; done) | (simp; omega)) (by first | (simp; done) | (simp; omega))) _).mono ?_; rintro e w' ⟨rfl, hb⟩; have HM' := Lib.hid (HM.out.call hb); clear HM hb; have HM := HM'; clear HM'))
  all_goals
    go_ret2
    exact ⟨ret_wide' rfl rfl, Own.fin HM⟩

set_option maxHeartbeats 1600000 in
theorem wrsbc_at (a b f k v g : Nat) (ha : a < 65536) (hb : b < 65536) (hf : f < 256) (hk : Hid (f % 2 = k)) (hv : Hid (wSubV a b k = v)) (hg : Hid (wSbcF a b k = g)) (w : World) :
    Calls Try.prog 14 #[.int .u16 (a : Int), .int .u16 (b : Int), .int .u8 (f : Int)] w fun e w' => e = .returned (.tuple #[.int .u16 (v : Int), .int .u8 (g : Int)]) ∧ Below w.heap.size w w' := by
  have HM := Lib.hid (Own.start w)
  have k1 : k ≤ 1 := by have := hk.out; omega
  have hf1 : (f : Int).tmod 2 = (k : Int) := by
    rw [Int.tmod_eq_emod_of_nonneg (by omega)]
    have := hk.out
    omega
  have v1 : v < 65536 := by rw [← hv.out]; exact wSubV_lt _ _ _
  obtain ⟨s, z, y, x, hs⟩ : ∃ s z y x, Hid (nS (wHigh v) = s ∧ nZ v = z ∧ nBit 32 (wHigh v) = y ∧ nBit 8 (wHigh v) = x) := ⟨_, _, _, _, rfl, rfl, rfl, rfl⟩
  have hkey := wrsbc_key a b k v g s z y x ha hb k1 hv.out hg.out hs.out
  have HN : Hid (((a : Int) - (b : Int) - (k : Int)) % 65536 = (v : Int)) := by
    have h : (a + 131072 - (b + k)) % 65536 = v := hv.out
    show _ = _
    omega
  have h12a : (a : Int).tmod 4096 = (a : Int) % 4096 := Int.tmod_eq_emod_of_nonneg (by omega)
  have h12b : (b : Int).tmod 4096 = (b : Int) % 4096 := Int.tmod_eq_emod_of_nonneg (by omega)
  obtain ⟨p, hp⟩ : ∃ p, Hid (signedW a = p) := ⟨_, rfl⟩
  obtain ⟨q, hq⟩ : ∃ q, Hid (signedW b = q) := ⟨_, rfl⟩
  have pb := signedW_bd a ha
  have qb := signedW_bd b hb
  rw [hp.out] at pb hkey
  rw [hq.out] at qb hkey
  have HK : Hid (∀ H P C : Bool, (H = true ↔ (a : Int) % 4096 - (b : Int) % 4096 - k < 0) → (P = true ↔ (p - q - k < -32768 ∨ 32767 < p - q - k)) → (C = true ↔ (a : Int) - b - k < 0) → Hid (nByte s z y H x P true C = g)) :=
    fun H P C hH hP hC => hkey H P C hH hP hC
  have tg1 : Hid True := trivial
  have tg2 : Hid True := trivial
  clear hv hg hkey hk
  go_enter Try.func14, Try.ntmps14
  go_wp2_with (first
    | ((with_reducible apply own_box HM); exact rfl; (conv => lhs; whnf); exact rfl; exact rfl; (first | (clear tg1; intro w' g1 HM') | (clear tg2; intro w' g2 HM') | (clear tg3; intro w' g3 HM') | (clear tg4; intro w' g4 HM') | intro w' g' HM'); clear HM; have HM := HM'; clear HM'; all_goals skip) | ((with_reducible apply own_alloc HM); exact rfl; (first | (with_reducible exact zeroF)); exact rfl; (first | (clear tg1; intro w' g1 HM') | (clear tg2; intro w' g2 HM') | (clear tg3; intro w' g3 HM') | (clear tg4; intro w' g4 HM') | intro w' g' HM'); clear HM; have HM := HM'; clear HM'; all_goals skip) | ((with_reducible apply own_cell HM); exact rfl; exact rfl; (first | (with_reducible exact oneBool)); (first | with_reducible exact .z | with_reducible exact .s .z | with_reducible exact .s (.s .z) | with_reducible exact .s (.s (.s .z)) | with_reducible exact .s (.s (.s (.s .z))) | with_reducible exact .s (.s (.s (.s (.s .z))))); (focus repeat' (first | with_reducible exact .z | with_reducible apply Drop.s)); exact rfl; all_goals skip) | ((with_reducible apply own_load HM); exact rfl; exact rfl; (first | (with_reducible exact aggF)); (first | with_reducible exact .z | with_reducible exact .s .z | with_reducible exact .s (.s .z) | with_reducible exact .s (.s (.s .z)) | with_reducible exact .s (.s (.s (.s .z))) | with_reducible exact .s (.s (.s (.s (.s .z))))); (focus repeat' (first | with_reducible exact .z | with_reducible apply Drop.s)); (focus repeat' (first | with_reducible exact .z | with_reducible apply Take.s)); exact rfl; all_goals skip) | ((with_reducible apply own_store HM); exact rfl; exact rfl; (conv => lhs; whnf); exact rfl; (first | with_reducible exact .z | with_reducible exact .s .z | with_reducible exact .s (.s .z) | with_reducible exact .s (.s (.s .z)) | with_reducible exact .s (.s (.s (.s .z))) | with_reducible exact .s (.s (.s (.s (.s .z))))); (focus repeat' (first | with_reducible exact .z | with_reducible apply Over.p | with_reducible apply Over.s)); (first | with_reducible exact .z | with_reducible exact .s .z | with_reducible exact .s (.s .z) | with_reducible exact .s (.s (.s .z)) | with_reducible exact .s (.s (.s (.s .z))) | with_reducible exact .s (.s (.s (.s (.s .z))))); (first | (with_reducible exact (aggF).size) | (with_reducible exact (oneBool).size)); exact rfl; exact rfl; exact rfl; exact rfl; intro w' HM'; clear HM; have HM := HM'; clear HM'; all_goals skip)
    | (go_at_call 25; (with_reducible refine (modulo_at _ v HN _).mono ?_); rintro e w' ⟨rfl, rfl⟩)
    | (go_at_call 29; first | ((with_reducible refine (signedW_at a ha p hp _).mono ?_); rintro e w' ⟨rfl, rfl⟩) | ((with_reducible refine (signedW_at b hb q hq _).mono ?_); rintro e w' ⟨rfl, rfl⟩))
    | (go_at_call 27; (with_reducible refine (wshape_at v s z y x v1 hs _).mono ?_); rintro e w' ⟨rfl, hb⟩; have HM' := Lib.hid (HM.out.call hb); clear HM hb; have HM := HM'; clear HM')
    | (go_at_call 28; refine (byte_at _ _ _ _ _ _ _ _ g (HK.out _ _ _ (by first | (simp; done) | (simp; omega)) (by first | (simp; done) | (simp; omega)) (by first | (simp; done) | (simp; omega))) _).mono ?_; rintro e w' ⟨rfl, hb⟩; have HM' := Lib.hid (HM.out.call hb); clear HM hb; have HM := HM'; clear HM'))
  all_goals
    go_ret2
    exact ⟨ret_wide' rfl rfl, Own.fin HM⟩

end Go.Proofs.Ytogohngbafnokaa
