import Derived.Test.YtljjgakfnajifaaGreatDoorZBase
import Derived.Test.YtljjgakfnajifaaGreatDoorZSumChkA
namespace Go.Proofs.YtljjgakfnajifaaGreatDoor
open Go.RowKit
theorem add_flags (a b c v f s : Nat) (ha : a < 256) (hb : b < 256) (hc : c ≤ 1) (hv : nAddV a b c = v) (hf : nAddF a b c = f) (hs : nShape v = s) :
    (((s ||| ((a + b + c) / 256 &&& 1)) ||| ((a ^^^ b ^^^ v) &&& 16)) ||| (((a ^^^ v) &&& (b ^^^ v)) / 32 &&& 4)) = f := by
  subst hs hf
  rw [← add_bits a b c ha hb hc]
  unfold cAddF
  rw [hv]
  rfl
theorem add_value (a b c v : Nat) (hv : nAddV a b c = v) : (a + b + c) % 256 = v := hv
set_option maxHeartbeats 3200000 in
theorem add_at (a b : Nat) (c : Bool) (v f : Nat) (ha : a < 256) (hb : b < 256) (hv : Hid (nAddV a b c.toNat = v)) (hf : Hid (nAddF a b c.toNat = f)) (w : World) :
    Calls Tryz.prog 195 #[.int .u8 (a : Int), .int .u8 (b : Int), .bool c] w fun e w' => e = .returned (.tuple #[.int .u8 (v : Int), .int .u8 (f : Int)]) ∧ w = w' := by
  have v1 : v < 256 := by rw [← hv.out]; exact nAddV_lt _ _ _
  obtain ⟨s, hs⟩ : ∃ s, nShape v = s := ⟨_, rfl⟩
  have s1 : s < 256 := by rw [← hs]; exact nByte_lt _ _ _ _ _ _ _ _
  have HT := Lib.hid hs
  have HF := Lib.hid (add_flags a b c.toNat v f s ha hb (by cases c <;> decide) hv.out hf.out hs)
  have hv2 := add_value a b c.toNat v hv.out
  clear hs hf hv
  obtain ⟨k, hk⟩ : ∃ k, cond c 1 0 = k := ⟨_, rfl⟩
  have k1 : k ≤ 1 := by rw [← hk]; cases c <;> decide
  have hk2 : c.toNat = k := by rw [← hk]; cases c <;> rfl
  rw [hk2] at HF hv2
  have hv3 : ((a : Int) + (b : Int) + (k : Int)) % 256 = (v : Int) := by omega
  clear hv2
  have HK := Lib.hid hk
  clear hk hk2
  go_enter Tryz.func195, Tryz.ntmps195
  go_wp2_with (first
      | (go_at_call 231; refine (when_at _ 1 c k rfl HK _).mono ?_; rintro e w' ⟨rfl, rfl⟩)
      | (go_at_call 226; refine (shape_at v s v1 HT _).mono ?_; rintro e w' ⟨rfl, rfl⟩))
  go_ret2
  refine ⟨ret_pair rfl ?_, rfl⟩
  rw [← HF.out]
  have e1 : ((a : Int) + (b : Int) + (k : Int)) / 256 = (((a + b + k) / 256 : Nat) : Int) := by omega
  have e2 : (((a ^^^ v) &&& (b ^^^ v) : Nat) : Int) / 32 = ((((a ^^^ v) &&& (b ^^^ v)) / 32 : Nat) : Int) := by omega
  have e3 : (a ^^^ v) &&& (b ^^^ v) < 256 := and8 (xor8 ha v1)
  have e4 : ((a ^^^ v) &&& (b ^^^ v)) / 32 < 256 := by omega
  rw [e1]
  simp (disch := exact bS) only [u8_and, u8_xor, Int.reduceToNat, Int.toNat_natCast]
  rw [e2]
  simp (disch := exact bS) only [u8_or, Int.toNat_natCast]
end Go.Proofs.YtljjgakfnajifaaGreatDoor
namespace Go.Proofs.YtljjgakfnajifaaGreatDoor
open Go.RowKit
theorem shapeAndParity_any (v : Nat) (h : v < 256) (w : World) : Calls Tryz.prog 240 #[.int .u8 (v : Int)] w fun e w' => e = .returned (.int .u8 ((nBitsF v false : Nat) : Int)) ∧ w = w' := by
  have HS := Lib.hid (bits_bits v h)
  obtain ⟨s, hs⟩ : ∃ s, nShape v = s := ⟨_, rfl⟩
  have s1 : s < 256 := hs ▸ nByte_lt _ _ _ _ _ _ _ _
  have HT := Lib.hid hs
  obtain ⟨b, hb⟩ : ∃ b, nPar v = b := ⟨_, rfl⟩
  have HB := Lib.hid hb
  obtain ⟨r, hr⟩ : ∃ r, cond b 4 0 = r := ⟨_, rfl⟩
  have HR := Lib.hid hr
  have r1 : r < 256 := by rw [← hr]; cases b <;> decide
  rw [hs, hb, hr] at HS
  clear hr hb hs
  go_enter Tryz.func240, Tryz.ntmps240
  go_wp2_with (first
    | (go_at_call 226; refine (shape_at v s h HT _).mono ?_; rintro e w' ⟨rfl, rfl⟩)
    | (go_at_call 191; refine (parity_any v h _).mono ?_; rintro e w' ⟨rfl, rfl⟩; rw [HB.out])
    | (go_at_call 231; refine (when_at _ 4 b r rfl HR _).mono ?_; rintro e w' ⟨rfl, rfl⟩))
  go_ret
  refine ⟨ret_byte ?_, rfl⟩
  rw [← HS.out]
  simp (disch := exact bS) only [u8_or, Int.toNat_natCast]
  rfl
theorem shapeAndParity_at (v r : Nat) (h : v < 256) (hr : Hid (nBitsF v false = r)) (w : World) : Calls Tryz.prog 240 #[.int .u8 (v : Int)] w fun e w' => e = .returned (.int .u8 (r : Int)) ∧ w = w' := by
  rw [← hr.out]; exact shapeAndParity_any v h w
end Go.Proofs.YtljjgakfnajifaaGreatDoor
namespace Go.Proofs.YtljjgakfnajifaaGreatDoor
open Go.RowKit
theorem not8 (b : Nat) (h : b < 256) : bits .xor .u8 IntKind.u8.max (b : Int) = ((255 - b : Nat) : Int) := by
  show bits .xor .u8 255 (b : Int) = _
  rw [u8_xor _ _ (by omega) (by omega) (by omega) (by omega), Int.toNat_natCast]
  have := Nat.eq_of_beq_eq_true (allB_at (p := fun b => Nat.beq (Nat.xor 255 b) (Nat.sub 255 b)) (n := 256) (by decide +kernel) b h)
  exact congrArg _ this
theorem toNat_le (c : Bool) : c.toNat ≤ 1 := by cases c <;> decide
set_option maxHeartbeats 800000 in
theorem sub_at (a b : Nat) (c : Bool) (v f : Nat) (ha : a < 256) (hb : b < 256) (hv : Hid (nSubV a b c.toNat = v)) (hf : Hid (nSubF a b c.toNat = f)) (w : World) :
    Calls Tryz.prog 136 #[.int .u8 (a : Int), .int .u8 (b : Int), .bool c] w fun e w' => e = .returned (.tuple #[.int .u8 (v : Int), .int .u8 (f : Int)]) ∧ w = w' := by
  have hs := sub_by_add a b c.toNat ha hb (toNat_le c)
  rw [hv.out, hf.out] at hs
  obtain ⟨g, hg⟩ : ∃ g, nAddF a (255 - b) (1 - c.toNat) = g := ⟨_, rfl⟩
  have g1 : g < 256 := by rw [← hg]; exact nAddF_lt _ _ _
  have hc : (!c).toNat = 1 - c.toNat := by cases c <;> rfl
  rw [← hc] at hs hg
  have HF : Hid (g ^^^ 17 ||| 2 = f) := by have h := hs.2; rw [hg] at h; exact h
  have HV := Lib.hid hs.1
  have HG := Lib.hid hg
  clear hs hg hv hf
  have hn := not8 b hb
  obtain ⟨n, hn2⟩ : ∃ n, 255 - b = n := ⟨_, rfl⟩
  have n1 : n < 256 := by omega
  rw [hn2] at hn HV HG
  clear hn2 hc
  go_enter Tryz.func136, Tryz.ntmps136
  go_wp2_with fail
  refine (add_at a n (!c) v g ha n1 HV HG _).mono ?_
  rintro e w2 ⟨rfl, rfl⟩
  clear hn HG HV
  go_wp2_with fail
  go_ret2
  refine ⟨ret_pair rfl ?_, rfl⟩
  rw [← HF.out]
  simp (disch := exact bS) only [u8_xor, u8_or, Int.reduceToNat, Int.toNat_natCast]
end Go.Proofs.YtljjgakfnajifaaGreatDoor
namespace Go.Proofs.YtljjgakfnajifaaGreatDoor
open Go.RowKit
theorem bits_lt (v : Nat) (h : Bool) (g : Nat) (hg : Hid (nBitsF v h = g)) : g < 256 := by rw [← hg.out]; exact nBitsF_lt _ _
theorem and_at (a b v g : Nat) (ha : a < 256) (hb : b < 256) (hv : Hid (a &&& b = v)) (hg : Hid (nBitsF v true = g)) (w : World) :
    Calls Tryz.prog 217 #[.int .u8 (a : Int), .int .u8 (b : Int)] w fun e w' => e = .returned (.tuple #[.int .u8 (v : Int), .int .u8 (g : Int)]) ∧ w = w' := by
  have v1 : v < 256 := by rw [← hv.out]; exact and8 ha
  have hx : bits .and .u8 (a : Int) (b : Int) = (v : Int) := by rw [← hv.out]; exact u8_and_nat a b ha hb
  obtain ⟨k, hk⟩ : ∃ k, Hid (nBitsF v false = k) := ⟨_, rfl⟩
  have k1 := bits_lt v false k hk
  have HG : Hid (k ||| 16 = g) := by have h := bits_half v v1; rw [hk.out, hg.out] at h; exact h
  clear hg hv
  go_enter Tryz.func217, Tryz.ntmps217
  go_wp2_with (go_at_call 240; refine (shapeAndParity_at v k v1 hk _).mono ?_; rintro e w' ⟨rfl, rfl⟩)
  go_ret2
  refine ⟨ret_pair rfl ?_, rfl⟩
  rw [← HG.out]
  simp (disch := exact bS) only [u8_or, Int.reduceToNat, Int.toNat_natCast]
theorem or_at (a b v g : Nat) (ha : a < 256) (hb : b < 256) (hv : Hid (a ||| b = v)) (hg : Hid (nBitsF v false = g)) (w : World) :
    Calls Tryz.prog 219 #[.int .u8 (a : Int), .int .u8 (b : Int)] w fun e w' => e = .returned (.tuple #[.int .u8 (v : Int), .int .u8 (g : Int)]) ∧ w = w' := by
  have v1 : v < 256 := by rw [← hv.out]; exact or8 ha hb
  have hx : bits .or .u8 (a : Int) (b : Int) = (v : Int) := by rw [← hv.out]; exact u8_or_nat a b ha hb
  clear hv
  go_enter Tryz.func219, Tryz.ntmps219
  go_wp2_with (go_at_call 240; refine (shapeAndParity_at v g v1 hg _).mono ?_; rintro e w' ⟨rfl, rfl⟩)
  go_ret2
  exact ⟨ret_pair rfl rfl, rfl⟩
theorem xor_at (a b v g : Nat) (ha : a < 256) (hb : b < 256) (hv : Hid (a ^^^ b = v)) (hg : Hid (nBitsF v false = g)) (w : World) :
    Calls Tryz.prog 218 #[.int .u8 (a : Int), .int .u8 (b : Int)] w fun e w' => e = .returned (.tuple #[.int .u8 (v : Int), .int .u8 (g : Int)]) ∧ w = w' := by
  have v1 : v < 256 := by rw [← hv.out]; exact xor8 ha hb
  have hx : bits .xor .u8 (a : Int) (b : Int) = (v : Int) := by rw [← hv.out]; exact u8_xor_nat a b ha hb
  clear hv
  go_enter Tryz.func218, Tryz.ntmps218
  go_wp2_with (go_at_call 240; refine (shapeAndParity_at v g v1 hg _).mono ?_; rintro e w' ⟨rfl, rfl⟩)
  go_ret2
  exact ⟨ret_pair rfl rfl, rfl⟩
theorem compare_at (a b g : Nat) (ha : a < 256) (hb : b < 256) (hg : Hid (nCmp a b = g)) (w : World) :
    Calls Tryz.prog 220 #[.int .u8 (a : Int), .int .u8 (b : Int)] w fun e w' => e = .returned (.int .u8 (g : Int)) ∧ w = w' := by
  obtain ⟨v, hv⟩ : ∃ v, Hid (nSubV a b 0 = v) := ⟨_, rfl⟩
  obtain ⟨f, hf⟩ : ∃ f, Hid (nSubF a b 0 = f) := ⟨_, rfl⟩
  have f1 : f < 256 := by rw [← hf.out]; exact nSubF_lt _ _ _
  have HG : Hid ((f &&& 215) ||| (b &&& 40) = g) := by show _ = _; rw [← hg.out]; unfold nCmp; rw [hf.out]; rfl
  clear hg
  go_enter Tryz.func220, Tryz.ntmps220
  go_wp2_with (go_at_call 136; refine (sub_at a b false v f ha hb hv hf _).mono ?_; rintro e w' ⟨rfl, rfl⟩)
  go_ret
  refine ⟨ret_byte ?_, rfl⟩
  rw [← HG.out]
  simp (disch := exact bS) only [u8_and, u8_or, u8_andNot, Int.reduceToNat, Int.toNat_natCast, Nat.reduceSub]
theorem inc_at (a f v g : Nat) (ha : a < 256) (hf : f < 256) (hv : Hid (nAddV a 1 0 = v)) (hg : Hid (nKeep (nAddF a 1 0) f = g)) (w : World) :
    Calls Tryz.prog 158 #[.int .u8 (a : Int), .int .u8 (f : Int)] w fun e w' => e = .returned (.tuple #[.int .u8 (v : Int), .int .u8 (g : Int)]) ∧ w = w' := by
  obtain ⟨k, hk⟩ : ∃ k, Hid (nAddF a 1 0 = k) := ⟨_, rfl⟩
  have k1 : k < 256 := by rw [← hk.out]; exact nAddF_lt _ _ _
  have HG : Hid ((k &&& 254) ||| (f &&& 1) = g) := by show _ = _; rw [← hg.out, hk.out]; rfl
  clear hg
  go_enter Tryz.func158, Tryz.ntmps158
  go_wp2_with (go_at_call 195; refine (add_at a 1 false v k ha (by omega) hv hk _).mono ?_; rintro e w' ⟨rfl, rfl⟩)
  go_ret2
  refine ⟨ret_pair rfl ?_, rfl⟩
  rw [← HG.out]
  simp (disch := exact bS) only [u8_and, u8_or, u8_andNot, Int.reduceToNat, Int.toNat_natCast, Nat.reduceSub]
theorem dec_at (a f v g : Nat) (ha : a < 256) (hf : f < 256) (hv : Hid (nSubV a 1 0 = v)) (hg : Hid (nKeep (nSubF a 1 0) f = g)) (w : World) :
    Calls Tryz.prog 159 #[.int .u8 (a : Int), .int .u8 (f : Int)] w fun e w' => e = .returned (.tuple #[.int .u8 (v : Int), .int .u8 (g : Int)]) ∧ w = w' := by
  obtain ⟨k, hk⟩ : ∃ k, Hid (nSubF a 1 0 = k) := ⟨_, rfl⟩
  have k1 : k < 256 := by rw [← hk.out]; exact nSubF_lt _ _ _
  have HG : Hid ((k &&& 254) ||| (f &&& 1) = g) := by show _ = _; rw [← hg.out, hk.out]; rfl
  clear hg
  go_enter Tryz.func159, Tryz.ntmps159
  go_wp2_with (go_at_call 136; refine (sub_at a 1 false v k ha (by omega) hv hk _).mono ?_; rintro e w' ⟨rfl, rfl⟩)
  go_ret2
  refine ⟨ret_pair rfl ?_, rfl⟩
  rw [← HG.out]
  simp (disch := exact bS) only [u8_and, u8_or, u8_andNot, Int.reduceToNat, Int.toNat_natCast, Nat.reduceSub]
end Go.Proofs.YtljjgakfnajifaaGreatDoor
