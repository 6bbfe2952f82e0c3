/-
  Package sums' Sub, by one contract.
-/
import Derived.Test.YthfkeiidkmkkoaaSumCodeA
namespace Go.Proofs.Ythfkeiidkmkkoaa
open Go.RowKit

theorem not8 (b : Nat) (h : b < 256) : bits .xor .u8 IntKind.u8.max (b : Int) = ((255 - b : Nat) : Int) := by
  show bits .xor .u8 255 (b : Int) = _
  rw [u8_xor _ _ (by omega) (by omega) (by omega) (by omega), Int.toNat_natCast]
  have := Nat.eq_of_beq_eq_true (allB_at (p := fun b => Nat.beq (Nat.xor 255 b) (Nat.sub 255 b)) (n := 256) (by decide +kernel) b h)
  exact congrArg _ this
theorem toNat_le (c : Bool) : c.toNat ≤ 1 := by cases c <;> decide

set_option maxHeartbeats 800000 in
theorem sub_at (a b : Nat) (c : Bool) (v f : Nat) (ha : a < 256) (hb : b < 256) (hv : Hid (nSubV a b c.toNat = v)) (hf : Hid (nSubF a b c.toNat = f)) (w : World) :
    Calls Try.prog 16 #[.int .u8 (a : Int), .int .u8 (b : Int), .bool c] w fun e w' => e = .returned (.tuple #[.int .u8 (v : Int), .int .u8 (f : Int)]) ∧ w = w' := by
  have hs := sub_by_add a b c.toNat ha hb (toNat_le c)
  rw [hv.out, hf.out] at hs
  obtain ⟨g, hg⟩ : ∃ g, nAddF a (255 - b) (1 - c.toNat) = g := ⟨_, rfl⟩
  have g1 : g < 256 := by rw [← hg]; exact nAddF_lt _ _ _
  have hc : (!c).toNat = 1 - c.toNat := by cases c <;> rfl
  rw [← hc] at hs hg
  have HF : Hid (g ^^^ 17 ||| 2 = f) := by have h := hs.2; rw [hg] at h; exact h
  have HV := Lib.hid hs.1
  have HG := Lib.hid hg
  clear hs hg hv hf
  have hn := not8 b hb
  obtain ⟨n, hn2⟩ : ∃ n, 255 - b = n := ⟨_, rfl⟩
  have n1 : n < 256 := by omega
  rw [hn2] at hn HV HG
  clear hn2 hc
  go_enter Try.func16, Try.ntmps16
  go_wp2_with fail
  refine (add_at a n (!c) v g ha n1 HV HG _).mono ?_
  rintro e w2 ⟨rfl, rfl⟩
  clear hn HG HV
  go_wp2_with fail
  go_ret2
  refine ⟨ret_pair rfl ?_, rfl⟩
  rw [← HF.out]
  simp (disch := (focus repeat' (first | assumption | omega | exact Int.natCast_nonneg _ | with_reducible apply or8i | with_reducible apply xor8i | with_reducible apply or8 | with_reducible apply xor8 | ((with_reducible apply and8i'); omega) | ((with_reducible apply and8'); omega) | with_reducible apply and8i | with_reducible apply and8))) only [u8_xor, u8_or, Int.reduceToNat, Int.toNat_natCast]

end Go.Proofs.Ythfkeiidkmkkoaa
