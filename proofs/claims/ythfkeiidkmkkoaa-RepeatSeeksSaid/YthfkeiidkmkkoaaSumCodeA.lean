/-
  Package sums' Add, by one contract.
-/
import Derived.Test.YthfkeiidkmkkoaaSumCodeS
import Derived.Test.YthfkeiidkmkkoaaSumChkA
namespace Go.Proofs.Ythfkeiidkmkkoaa
open Go.RowKit

theorem add_flags (a b c v f s : Nat) (ha : a < 256) (hb : b < 256) (hc : c ≤ 1) (hv : nAddV a b c = v) (hf : nAddF a b c = f) (hs : nShape v = s) :
    (((s ||| ((a + b + c) / 256 &&& 1)) ||| ((a ^^^ b ^^^ v) &&& 16)) ||| (((a ^^^ v) &&& (b ^^^ v)) / 32 &&& 4)) = f := by
  subst hs hf
  rw [← add_bits a b c ha hb hc]
  unfold cAddF
  rw [hv]
  rfl
theorem add_value (a b c v : Nat) (hv : nAddV a b c = v) : (a + b + c) % 256 = v := hv

set_option maxHeartbeats 3200000 in
theorem add_at (a b : Nat) (c : Bool) (v f : Nat) (ha : a < 256) (hb : b < 256) (hv : Hid (nAddV a b c.toNat = v)) (hf : Hid (nAddF a b c.toNat = f)) (w : World) :
    Calls Try.prog 26 #[.int .u8 (a : Int), .int .u8 (b : Int), .bool c] w fun e w' => e = .returned (.tuple #[.int .u8 (v : Int), .int .u8 (f : Int)]) ∧ w = w' := by
  have v1 : v < 256 := by rw [← hv.out]; exact nAddV_lt _ _ _
  obtain ⟨s, hs⟩ : ∃ s, nShape v = s := ⟨_, rfl⟩
  have s1 : s < 256 := by rw [← hs]; exact nByte_lt _ _ _ _ _ _ _ _
  have HT := Lib.hid hs
  have HF := Lib.hid (add_flags a b c.toNat v f s ha hb (by cases c <;> decide) hv.out hf.out hs)
  have hv2 := add_value a b c.toNat v hv.out
  clear hs hf hv
  obtain ⟨k, hk⟩ : ∃ k, cond c 1 0 = k := ⟨_, rfl⟩
  have k1 : k ≤ 1 := by rw [← hk]; cases c <;> decide
  have hk2 : c.toNat = k := by rw [← hk]; cases c <;> rfl
  rw [hk2] at HF hv2
  have hv3 : ((a : Int) + (b : Int) + (k : Int)) % 256 = (v : Int) := by omega
  clear hv2
  have HK := Lib.hid hk
  clear hk hk2
  go_enter Try.func26, Try.ntmps26
  go_wp2_with (first
      | (go_at_call 28; refine (when_at _ 1 c k rfl HK _).mono ?_; rintro e w' ⟨rfl, rfl⟩)
      | (go_at_call 20; refine (shape_at v s v1 HT _).mono ?_; rintro e w' ⟨rfl, rfl⟩))
  go_ret2
  refine ⟨ret_pair rfl ?_, rfl⟩
  rw [← HF.out]
  have e1 : ((a : Int) + (b : Int) + (k : Int)) / 256 = (((a + b + k) / 256 : Nat) : Int) := by omega
  have e2 : (((a ^^^ v) &&& (b ^^^ v) : Nat) : Int) / 32 = ((((a ^^^ v) &&& (b ^^^ v)) / 32 : Nat) : Int) := by omega
  have e3 : (a ^^^ v) &&& (b ^^^ v) < 256 := and8 (xor8 ha v1)
  have e4 : ((a ^^^ v) &&& (b ^^^ v)) / 32 < 256 := by omega
  rw [e1]
  simp (disch := (focus repeat' (first | assumption | omega | exact Int.natCast_nonneg _ | with_reducible apply or8i | with_reducible apply xor8i | with_reducible apply or8 | with_reducible apply xor8 | ((with_reducible apply and8i'); omega) | ((with_reducible apply and8'); omega) | with_reducible apply and8i | with_reducible apply and8))) only [u8_and, u8_xor, Int.reduceToNat, Int.toNat_natCast]
  rw [e2]
  simp (disch := (focus repeat' (first | assumption | omega | exact Int.natCast_nonneg _ | with_reducible apply or8i | with_reducible apply xor8i | with_reducible apply or8 | with_reducible apply xor8 | ((with_reducible apply and8i'); omega) | ((with_reducible apply and8'); omega) | with_reducible apply and8i | with_reducible apply and8))) only [u8_or, Int.toNat_natCast]

end Go.Proofs.Ythfkeiidkmkkoaa
