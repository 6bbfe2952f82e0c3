/-
  Package rom's Banks, At and Bytes over a cartridge that holds any bytes.
-/
import Derived.Test.YtlnoomganphbeaaRomNew
import Derived.Laws.BitsAllLaws
import Derived.Laws.BitsLemmas
namespace Go.Proofs.Ytlnoomganphbeaa
open Go.RowKit

/-- the bytes are M whole banks, M a power of two up to 256 -/
def RomFit (zs : List Int) (M : Int) : Prop := (M = 1 ∨ M = 2 ∨ M = 4 ∨ M = 8 ∨ M = 16 ∨ M = 32 ∨ M = 64 ∨ M = 128 ∨ M = 256) ∧ (zs.length : Int) = M * 16384
theorem RomFit.bd {zs : List Int} {M : Int} (h : RomFit zs M) : 1 ≤ M ∧ M ≤ 256 := by unfold RomFit at h; omega
theorem romOf_fit (zs : List Int) (h : zs.length ≤ 4194304) : RomFit (romOf zs) (bk zs.length) := by
  refine ⟨?_, ?_⟩
  · unfold bk; repeat' split
    all_goals simp
  · have := bk_room zs.length h
    rw [romOf_length zs h]; omega

theorem toNat_ofInt64 (x : Int) : ((BitVec.ofInt 64 x).toNat : Int) = x % 18446744073709551616 := by
  rw [BitVec.toNat_ofInt]; omega

/-- a mask of the lowest k bits is the remainder, below 0 too -/
theorem and_mask (x : Int) (k : Nat) (hk : k < 62) : bits .and .i64 x (2 ^ k - 1) = x % 2 ^ k := by
  show IntKind.i64.wrap ((BitVec.ofInt 64 x &&& BitVec.ofInt 64 (2 ^ k - 1)).toNat : Int) = _
  have h2 : (2 : Nat) ^ k ≤ 2 ^ 62 := Nat.pow_le_pow_right (by omega) (by omega)
  have hp : (2 : Nat) ^ k - 1 < 2 ^ 64 := by omega
  have e1 : (BitVec.ofInt 64 (2 ^ k - 1)).toNat = 2 ^ k - 1 := by
    have : ((2 : Int) ^ k - 1) = ((2 ^ k - 1 : Nat) : Int) := by
      have : 1 ≤ (2 : Nat) ^ k := Nat.one_le_two_pow
      push_cast [this]; rfl
    rw [this, BitVec.ofInt_natCast, BitVec.toNat_ofNat, Nat.mod_eq_of_lt hp]
  rw [BitVec.toNat_and, e1, Nat.and_two_pow_sub_one_eq_mod]
  have e2 := toNat_ofInt64 x
  have e3 : (((BitVec.ofInt 64 x).toNat % 2 ^ k : Nat) : Int) = x % 2 ^ k := by
    rw [Int.natCast_emod, e2]
    push_cast
    exact Int.emod_emod_of_dvd x (by
      have : (18446744073709551616 : Int) = 2 ^ k * 2 ^ (64 - k) := by rw [← Int.pow_add, show k + (64 - k) = 64 from by omega]; rfl
      exact ⟨_, this⟩)
  rw [e3, IntKind.wrap_i64]
  have l1 : 0 ≤ x % 2 ^ k := Int.emod_nonneg _ (by have := Int.pow_pos (n := 2) (m := k) (by omega); omega)
  have l2 : x % 2 ^ k < 2 ^ k := Int.emod_lt_of_pos _ (Int.pow_pos (by omega))
  have l3 : (2 : Int) ^ k ≤ 2 ^ 62 := by exact_mod_cast h2
  omega

theorem and_banks (x M : Int) (h : M = 1 ∨ M = 2 ∨ M = 4 ∨ M = 8 ∨ M = 16 ∨ M = 32 ∨ M = 64 ∨ M = 128 ∨ M = 256) : bits .and .i64 x (M - 1) = x % M := by
  rcases h with rfl | rfl | rfl | rfl | rfl | rfl | rfl | rfl | rfl
  · exact and_mask x 0 (by omega)
  · exact and_mask x 1 (by omega)
  · exact and_mask x 2 (by omega)
  · exact and_mask x 3 (by omega)
  · exact and_mask x 4 (by omega)
  · exact and_mask x 5 (by omega)
  · exact and_mask x 6 (by omega)
  · exact and_mask x 7 (by omega)
  · exact and_mask x 8 (by omega)
theorem and_16383 (x : Int) : bits .and .i64 x 16383 = x % 16384 := and_mask x 14 (by omega)

set_option maxHeartbeats 400000 in
theorem banks_any (b : Nat) (zs : List Int) (M : Int) (hM : RomFit zs M) (w : World) (h : RomAt w b zs) :
    Calls Try.prog 25 #[.pointer (some ⟨b, 0, none⟩)] w fun e w' => e = .returned (.int .i64 M) ∧ w = w' := by
  obtain ⟨d, k, sem, s, hb, hd, hk⟩ := h
  have h0 := hb.at_ 0
  simp only [List.getElem?_cons_zero] at h0
  have hbd := hM.bd
  have hl : (zs.length : Int) / 16384 = M := by have := hM.2; omega
  have hlen : (zs.length : Int) ≤ 4194304 := by have := hM.2; omega
  have HL := Lib.hid hl
  clear hl hM hb hd hk
  go_enter Try.func25, Try.ntmps25
  go_wp2
  go_ret
  exact ⟨by rw [HL.out]; rfl, rfl⟩

set_option maxHeartbeats 800000 in
theorem at_any (b : Nat) (zs : List Int) (M : Int) (hM : RomFit zs M) (w : World) (h : RomAt w b zs) (x y : Int) :
    Calls Try.prog 24 #[.pointer (some ⟨b, 0, none⟩), .int .i64 x, .int .i64 y] w fun e w' => e = .returned (.int .u8 (zs.getD (x % M * 16384 + y % 16384).toNat 0)) ∧ w = w' := by
  have HR := Lib.hid h
  obtain ⟨d, k, sem, s, hb, hd, hk⟩ := h
  have h0 := hb.at_ 0
  simp only [List.getElem?_cons_zero] at h0
  have hbd := hM.bd
  have hx1 : 0 ≤ x % M := Int.emod_nonneg _ (by omega)
  have hx2 : x % M < M := Int.emod_lt_of_pos _ (by omega)
  have hlen : (zs.length : Int) ≤ 4194304 := by have := hM.2; omega
  have hin : x % M * 16384 + y % 16384 < (zs.length : Int) := by have := hM.2; omega
  have hi := hd.at_ (x % M * 16384 + y % 16384).toNat
  rw [u8s_get, List.getElem?_eq_getElem (by omega), Option.map_some] at hi
  have hg : zs.getD (x % M * 16384 + y % 16384).toNat 0 = zs[(x % M * 16384 + y % 16384).toNat]'(by omega) := by
    simp [List.getD_eq_getElem?_getD]
    rw [List.getElem?_eq_getElem (by omega)]; rfl
  rw [← hg] at hi
  have e1 := and_banks x M hM.1
  have e2 := and_16383 y
  have HM := Lib.hid hM
  clear hb hd hk hM hg
  go_enter Try.func24, Try.ntmps24
  go_wp2_with (go_at_call 25; refine (banks_any b zs M HM.out _ HR.out).mono ?_; rintro e w' ⟨rfl, rfl⟩)
  go_ret
  exact ⟨rfl, rfl⟩

end Go.Proofs.Ytlnoomganphbeaa
