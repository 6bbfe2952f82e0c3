import Derived.Test.YtljjgakfnajifaaGreatDoorZBase
import Derived.Test.YtljjgakfnajifaaGreatDoorZSumCodeA
import Derived.OwnWalk
namespace Go.Proofs.YtljjgakfnajifaaGreatDoor
open Go.RowKit
theorem zero_at (v r : Nat) (hr : Hid (cond (nZ v) 64 0 = r)) (w : World) : Calls Tryz.prog 230 #[.int .u16 (v : Int)] w fun e w' => e = .returned (.int .u8 (r : Int)) ∧ w = w' := by
  by_cases h : (v : Int) = 0
  · have e : v = 0 := by omega
    subst e
    have e : 64 = r := hr.out
    subst e
    go_enter Tryz.func230, Tryz.ntmps230
    go_wp2
    go_ret
    exact ⟨rfl, rfl⟩
  · have e : 0 = r := by
      rw [← hr.out, show nZ v = false from by unfold nZ; rw [← Bool.not_eq_true, Nat.beq_eq]; omega]; rfl
    subst e
    go_enter Tryz.func230, Tryz.ntmps230
    go_wp2
    go_ret
    exact ⟨rfl, rfl⟩
set_option maxHeartbeats 800000 in
theorem together_at (a b c v t : Nat) (ha : a < 65536) (hb : b < 65536) (hc : c ≤ 1) (hv : Hid (wAddV a b c = v)) (ht : Hid (wTold a b c = t)) (w : World) :
    Calls Tryz.prog 229 #[.int .u16 (a : Int), .int .u16 (b : Int), .int .u8 (c : Int)] w fun e w' => e = .returned (.tuple #[.int .u16 (v : Int), .int .u8 (t : Int)]) ∧ w = w' := by
  have v1 : v < 65536 := by rw [← hv.out]; exact wAddV_lt _ _ _
  obtain ⟨x, hx⟩ : ∃ x, a ^^^ b ^^^ v = x := ⟨_, rfl⟩
  have x1 : x < 65536 := by rw [← hx]; exact Nat.xor_lt_two_pow (n := 16) (Nat.xor_lt_two_pow (n := 16) ha hb) v1
  obtain ⟨h, hh⟩ : ∃ h, Hid (wHigh x = h) := ⟨_, rfl⟩
  have h1 : h < 256 := by rw [← hh.out]; exact wHigh_lt _ x1
  have HT : Hid (((a + b + c) / 65536 &&& 1) ||| (h &&& 16) = t) := by
    have h := told_bits a b c v ha hb hc hv.out
    rw [hx, hh.out, ht.out] at h
    exact h
  have e1 : IntKind.u16.wrap ((a : Int) + (b : Int) + (c : Int)) = (v : Int) := by
    have : (a + b + c) % 65536 = v := hv.out
    rw [IntKind.wrap_u16]
    omega
  have ab : a ^^^ b < 65536 := Nat.xor_lt_two_pow (n := 16) ha hb
  have e2 : bits .xor .u16 (bits .xor .u16 (a : Int) (b : Int)) (v : Int) = (x : Int) := by
    rw [u16_xor_nat a b ha hb, u16_xor_nat _ v ab v1, hx]
  clear hv ht hx ab
  go_enter Tryz.func229, Tryz.ntmps229
  go_wp2_with (go_at_call 202; (with_reducible refine (high_at x h x1 hh _).mono ?_); rintro e w' ⟨rfl, rfl⟩)
  go_ret2
  refine ⟨ret_wide rfl ?_, rfl⟩
  rw [← HT.out]
  obtain ⟨q, hq⟩ : ∃ q, (a + b + c) / 65536 = q := ⟨_, rfl⟩
  have q1 : q < 256 := by omega
  have e3 : ((a : Int) + (b : Int) + (c : Int)) / 65536 = (q : Int) := by omega
  rw [hq, e3, u8_and q 1 (by omega) (by omega) (by omega) (by omega), u8_and h 16 (by omega) (by omega) (by omega) (by omega)]
  exact u8_or_nat (q &&& 1) (h &&& 16) (and8 q1) (and8 h1)
theorem wand_one (f c : Nat) (hf : f < 256) (hc : Hid (f % 2 = c)) : bits .and .u8 (f : Int) 1 = (c : Int) := by
  rw [u8_and f 1 (by omega) (by omega) (by omega) (by omega), ← hc.out, ← Nat.and_one_is_mod]; rfl
set_option maxHeartbeats 1600000 in
theorem adc_at (a b f c v g : Nat) (ha : a < 65536) (hb : b < 65536) (hf : f < 256) (hc : Hid (f % 2 = c)) (hv : Hid (wAddV a b c = v)) (hg : Hid (wAdcF a b c = g)) (w : World) :
    Calls Tryz.prog 193 #[.int .u16 (a : Int), .int .u16 (b : Int), .int .u8 (f : Int)] w fun e w' => e = .returned (.tuple #[.int .u16 (v : Int), .int .u8 (g : Int)]) ∧ w = w' := by
  have c1 : c ≤ 1 := by have := hc.out; omega
  have v1 : v < 65536 := by rw [← hv.out]; exact wAddV_lt _ _ _
  have hf1 := wand_one f c hf hc
  obtain ⟨t, ht⟩ : ∃ t, Hid (wTold a b c = t) := ⟨_, rfl⟩
  have t1 : t < 256 := by rw [← ht.out]; exact wTold_lt _ _ _
  obtain ⟨h, hh⟩ : ∃ h, Hid (wHigh v = h) := ⟨_, rfl⟩
  have h1 : h < 256 := by rw [← hh.out]; exact wHigh_lt _ v1
  obtain ⟨z, hz⟩ : ∃ z : Nat, Hid (cond (nZ v) 64 0 = z) := ⟨_, rfl⟩
  have z1 : z < 256 := by rw [← hz.out]; cases nZ v <;> decide
  obtain ⟨m, hm⟩ : ∃ m, (a ^^^ v) &&& (b ^^^ v) = m := ⟨_, rfl⟩
  have av : a ^^^ v < 65536 := Nat.xor_lt_two_pow (n := 16) ha v1
  have bv : b ^^^ v < 65536 := Nat.xor_lt_two_pow (n := 16) hb v1
  have m1 : m < 65536 := by rw [← hm]; exact Nat.lt_of_le_of_lt Nat.and_le_left av
  have HG : Hid (((t ||| (m / 8192 &&& 4)) ||| (h &&& 168)) ||| z = g) := by
    have h := wadc_flags a b c v t g z ha hb c1 hv.out ht.out hg.out hz.out
    rw [hm, hh.out] at h
    exact h
  have e2 : bits .and .u16 (bits .xor .u16 (a : Int) (v : Int)) (bits .xor .u16 (b : Int) (v : Int)) = (m : Int) := by
    rw [u16_xor_nat a v ha v1, u16_xor_nat b v hb v1, u16_and_nat _ _ av bv, hm]
  clear hg hm av bv
  go_enter Tryz.func193, Tryz.ntmps193
  go_wp2_with (first
    | (go_at_call 229; (with_reducible refine (together_at a b c v t ha hb c1 hv ht _).mono ?_); rintro e w' ⟨rfl, rfl⟩)
    | (go_at_call 202; (with_reducible refine (high_at v h v1 hh _).mono ?_); rintro e w' ⟨rfl, rfl⟩)
    | (go_at_call 230; (with_reducible refine (zero_at v z hz _).mono ?_); rintro e w' ⟨rfl, rfl⟩))
  go_ret2
  refine ⟨ret_wide rfl ?_, rfl⟩
  rw [← HG.out]
  obtain ⟨q, hq⟩ : ∃ q, m / 8192 = q := ⟨_, rfl⟩
  have q1 : q < 256 := by omega
  have e3 : (m : Int) / 8192 = (q : Int) := by omega
  rw [hq, e3]
  clear e3 hq e2 hf1
  simp (disch := exact bS) only [u8_and, Int.reduceToNat, Int.toNat_natCast]
  simp (disch := exact bS) only [u8_or, Int.toNat_natCast]
set_option maxHeartbeats 1600000 in
theorem wadd_at (a b f v g : Nat) (ha : a < 65536) (hb : b < 65536) (hf : f < 256) (hv : Hid (wAddV a b 0 = v)) (hg : Hid (wAddF a b f = g)) (w : World) :
    Calls Tryz.prog 212 #[.int .u16 (a : Int), .int .u16 (b : Int), .int .u8 (f : Int)] w fun e w' => e = .returned (.tuple #[.int .u16 (v : Int), .int .u8 (g : Int)]) ∧ w = w' := by
  have v1 : v < 65536 := by rw [← hv.out]; exact wAddV_lt _ _ _
  obtain ⟨t, ht⟩ : ∃ t, Hid (wTold a b 0 = t) := ⟨_, rfl⟩
  have t1 : t < 256 := by rw [← ht.out]; exact wTold_lt _ _ _
  obtain ⟨h, hh⟩ : ∃ h, Hid (wHigh v = h) := ⟨_, rfl⟩
  have h1 : h < 256 := by rw [← hh.out]; exact wHigh_lt _ v1
  have HG : Hid ((t ||| (f &&& 196)) ||| (h &&& 40) = g) := by
    have h := wadd_flags a b f v t g hf hv.out ht.out hg.out
    rw [hh.out] at h
    exact h
  clear hg
  go_enter Tryz.func212, Tryz.ntmps212
  go_wp2_with (first
    | (go_at_call 229; refine (together_at a b 0 v t ha hb (by omega) hv ht _).mono ?_; rintro e w' ⟨rfl, rfl⟩)
    | (go_at_call 202; (with_reducible refine (high_at v h v1 hh _).mono ?_); rintro e w' ⟨rfl, rfl⟩))
  go_ret2
  refine ⟨ret_wide rfl ?_, rfl⟩
  rw [← HG.out]
  simp (disch := exact bS) only [u8_and, Int.reduceToNat, Int.toNat_natCast]
  simp (disch := exact bS) only [u8_or, Int.toNat_natCast]
theorem not16 (b : Nat) (h : b < 65536) : bits .xor .u16 IntKind.u16.max (b : Int) = ((65535 - b : Nat) : Int) := by
  show bits .xor .u16 65535 (b : Int) = _
  rw [u16_xor _ _ (by omega) (by omega) (by omega) (by omega), Int.toNat_natCast]
  refine congrArg _ ?_
  show 65535 ^^^ b = 65535 - b
  have e : b = 65535 - (65535 - b) := by omega
  have h1 : (65535 ^^^ b) = (BitVec.allOnes 16 ^^^ BitVec.ofNat 16 b).toNat := by
    rw [BitVec.toNat_xor, BitVec.toNat_allOnes, BitVec.toNat_ofNat, Nat.mod_eq_of_lt h]
  rw [h1, BitVec.allOnes_xor, BitVec.toNat_not, BitVec.toNat_ofNat, Nat.mod_eq_of_lt h]
set_option maxHeartbeats 800000 in
theorem sbc_at (a b f c v g : Nat) (ha : a < 65536) (hb : b < 65536) (hf : f < 256) (hc : Hid (f % 2 = c)) (hv : Hid (wSubV a b c = v)) (hg : Hid (wSbcF a b c = g)) (w : World) :
    Calls Tryz.prog 192 #[.int .u16 (a : Int), .int .u16 (b : Int), .int .u8 (f : Int)] w fun e w' => e = .returned (.tuple #[.int .u16 (v : Int), .int .u8 (g : Int)]) ∧ w = w' := by
  have c1 : c ≤ 1 := by have := hc.out; omega
  have hs := wsub_by_add a b c ha hb c1
  rw [hv.out, hg.out] at hs
  obtain ⟨k, hk⟩ : ∃ k, wAdcF a (65535 - b) (1 - c) = k := ⟨_, rfl⟩
  have k1 : k < 256 := by rw [← hk]; exact wAdcF_lt _ _ _
  have HG : Hid ((k ^^^ 17) ||| 2 = g) := by have h := hs.2; rw [hk] at h; exact h
  obtain ⟨n, hn⟩ : ∃ n, 65535 - b = n := ⟨_, rfl⟩
  have n1 : n < 65536 := by omega
  have e1 := not16 b hb
  rw [hn] at e1 hs hk
  obtain ⟨f', hf'⟩ : ∃ f', f ^^^ 1 = f' := ⟨_, rfl⟩
  have f1 : f' < 256 := by rw [← hf']; exact xor8 hf (by omega)
  have e2 : bits .xor .u8 (f : Int) 1 = (f' : Int) := by
    rw [u8_xor f 1 (by omega) (by omega) (by omega) (by omega), ← hf']; rfl
  have hc' : Hid (f' % 2 = 1 - c) := by
    have h := xor_bit 0 f 1
    simp only [Nat.pow_zero, Nat.div_one] at h
    rw [hf'] at h
    have := hc.out
    show f' % 2 = 1 - c
    omega
  have HV := Lib.hid hs.1
  have HK := Lib.hid hk
  clear hs hk hn hf' hv hg c1 hc
  go_enter Tryz.func192, Tryz.ntmps192
  go_wp2_with (go_at_call 193; (with_reducible refine (adc_at a n f' (1 - c) v k ha n1 f1 hc' HV HK _).mono ?_); rintro e w' ⟨rfl, rfl⟩)
  go_ret2
  refine ⟨ret_wide rfl ?_, rfl⟩
  rw [← HG.out]
  simp (disch := exact bS) only [u8_xor, u8_or, Int.reduceToNat, Int.toNat_natCast]
theorem move_at (v b r : Nat) (_hv : v < 65536) (hb : b < 256) (hr : Hid (wMove v b = r)) (w : World) :
    Calls Tryz.prog 140 #[.int .u16 (v : Int), .int .u8 (b : Int)] w fun e w' => e = .returned (.int .u16 (r : Int)) ∧ w = w' := by
  by_cases h : (128 : Int) ≤ (b : Int)
  · have e : (v + (b + 65280)) % 65536 = r := by
      have h2 := hr.out
      unfold wMove at h2
      rw [show Nat.ble 128 b = true from ble_t (by omega)] at h2
      exact h2
    go_enter Tryz.func140, Tryz.ntmps140
    go_wp2
    go_ret
    refine ⟨ret_word ?_, rfl⟩
    have e8 : IntKind.i8.wrap (b : Int) = (b : Int) - 256 := by
      simp [IntKind.wrap, IntKind.bits, IntKind.signed]
      omega
    rw [e8, IntKind.wrap_u16, IntKind.wrap_u16]
    omega
  · have e : (v + b) % 65536 = r := by
      have h2 := hr.out
      unfold wMove at h2
      rw [show Nat.ble 128 b = false from ble_f (by omega)] at h2
      exact h2
    go_enter Tryz.func140, Tryz.ntmps140
    go_wp2
    go_ret
    refine ⟨ret_word ?_, rfl⟩
    rw [IntKind.wrap_u16]
    omega
end Go.Proofs.YtljjgakfnajifaaGreatDoor
namespace Go.Proofs.YtljjgakfnajifaaGreatDoor
open Go.RowKit
theorem ret_three {a b c : Int} {v m f : Nat} (h : a = (v : Int)) (h' : b = (m : Int)) (h'' : c = (f : Int)) : (Ending.returned (.tuple #[.int .u8 a, .int .u8 b, .int .u8 c]) : Ending) = .returned (.tuple #[.int .u8 (v : Int), .int .u8 (m : Int), .int .u8 (f : Int)]) := by rw [h, h', h'']
theorem and_one (f c : Nat) (hf : f < 256) (hc : f % 2 = c) : bits .and .u8 (f : Int) 1 = (c : Int) := by
  rw [u8_and f 1 (by omega) (by omega) (by omega) (by omega), ← hc, ← Nat.and_one_is_mod]; rfl
theorem tup_at (v i r o : Nat) (hv : v < 256) (hi : i ≤ 1) (hr : Hid (tUp v i = r)) (ho : Hid (v / 128 = o)) (w : World) :
    Calls Tryz.prog 238 #[.int .u8 (v : Int), .int .u8 (i : Int)] w fun e w' => e = .returned (.tuple #[.int .u8 (r : Int), .int .u8 (o : Int)]) ∧ w = w' := by
  go_enter Tryz.func238, Tryz.ntmps238
  go_wp2
  go_ret2
  refine ⟨ret_pair ?_ ?_, rfl⟩
  · rw [← hr.out, ← up_bits v i hv hi, show ((v : Int) * 2 % 256) = ((v * 2 % 256 : Nat) : Int) by omega, u8_or_nat _ _ (by omega) (by omega)]
  · have := ho.out; omega
theorem tdown_at (v i r o : Nat) (hv : v < 256) (hi : i ≤ 1) (hr : Hid (tDn v i = r)) (ho : Hid (v % 2 = o)) (w : World) :
    Calls Tryz.prog 239 #[.int .u8 (v : Int), .int .u8 (i : Int)] w fun e w' => e = .returned (.tuple #[.int .u8 (r : Int), .int .u8 (o : Int)]) ∧ w = w' := by
  go_enter Tryz.func239, Tryz.ntmps239
  go_wp2
  go_ret2
  refine ⟨ret_pair ?_ (and_one v o hv ho.out), rfl⟩
  rw [← hr.out, ← dn_bits v i hv hi, show ((i : Int) * 128) = ((i * 128 : Nat) : Int) by omega, show ((v : Int) / 2) = ((v / 2 : Nat) : Int) by omega, u8_or_nat _ _ (by omega) (by omega)]
theorem up_zero (v r o : Nat) (hv : v < 256) (hr : Hid (tUp v 0 = r)) (ho : Hid (v / 128 = o)) (w : World) :
    Calls Tryz.prog 238 #[.int .u8 (v : Int), .int .u8 0] w fun e w' => e = .returned (.tuple #[.int .u8 (r : Int), .int .u8 (o : Int)]) ∧ w = w' := tup_at v 0 r o hv (by omega) hr ho w
theorem up_one (v r o : Nat) (hv : v < 256) (hr : Hid (tUp v 1 = r)) (ho : Hid (v / 128 = o)) (w : World) :
    Calls Tryz.prog 238 #[.int .u8 (v : Int), .int .u8 1] w fun e w' => e = .returned (.tuple #[.int .u8 (r : Int), .int .u8 (o : Int)]) ∧ w = w' := tup_at v 1 r o hv (by omega) hr ho w
theorem down_zero (v r o : Nat) (hv : v < 256) (hr : Hid (tDn v 0 = r)) (ho : Hid (v % 2 = o)) (w : World) :
    Calls Tryz.prog 239 #[.int .u8 (v : Int), .int .u8 0] w fun e w' => e = .returned (.tuple #[.int .u8 (r : Int), .int .u8 (o : Int)]) ∧ w = w' := tdown_at v 0 r o hv (by omega) hr ho w
theorem turn_at (k v c r o : Nat) (hk : k < 8) (hv : v < 256) (hc : c ≤ 1) (hr : Hid (tV k v c = r)) (ho : Hid (tO k v = o)) (w : World) :
    Calls Tryz.prog 208 #[.int .i64 (k : Int), .int .u8 (v : Int), .int .u8 (c : Int)] w fun e w' => e = .returned (.tuple #[.int .u8 (r : Int), .int .u8 (o : Int)]) ∧ w = w' := by
  obtain ⟨t, ht⟩ : ∃ t, v / 128 = t := ⟨_, rfl⟩
  obtain ⟨b, hb⟩ : ∃ b, v % 2 = b := ⟨_, rfl⟩
  have e1 : (v : Int) / 128 = (t : Int) := by omega
  have e2 := and_one v b hv hb
  have t1 : t ≤ 1 := by omega
  have b1 : b ≤ 1 := by omega
  have HT := Lib.hid ht
  have HB := Lib.hid hb
  have hc8 : k = 0 ∨ k = 1 ∨ k = 2 ∨ k = 3 ∨ k = 4 ∨ k = 5 ∨ k = 6 ∨ k = 7 := by omega
  clear hk ht hb
  rcases hc8 with rfl | rfl | rfl | rfl | rfl | rfl | rfl | rfl
  · have h1 : Hid (tUp v t = r) := by show _ = _; rw [← HT.out]; exact hr.out
    have h2 : Hid (v / 128 = o) := ho
    clear hr ho
    go_enter Tryz.func208, Tryz.ntmps208
    go_wp2_with (go_at_call 238; (with_reducible refine (tup_at v t r o hv t1 h1 h2 _).mono ?_); rintro e w' ⟨rfl, rfl⟩)
    go_ret2
    exact ⟨rfl, rfl⟩
  · have h1 : Hid (tDn v b = r) := by show _ = _; rw [← HB.out]; exact hr.out
    have h2 : Hid (v % 2 = o) := ho
    clear hr ho
    go_enter Tryz.func208, Tryz.ntmps208
    go_wp2_with (go_at_call 239; (with_reducible refine (tdown_at v b r o hv b1 h1 h2 _).mono ?_); rintro e w' ⟨rfl, rfl⟩)
    go_ret2
    exact ⟨rfl, rfl⟩
  · have h1 : Hid (tUp v c = r) := hr
    have h2 : Hid (v / 128 = o) := ho
    clear hr ho
    go_enter Tryz.func208, Tryz.ntmps208
    go_wp2_with (go_at_call 238; (with_reducible refine (tup_at v c r o hv hc h1 h2 _).mono ?_); rintro e w' ⟨rfl, rfl⟩)
    go_ret2
    exact ⟨rfl, rfl⟩
  · have h1 : Hid (tDn v c = r) := hr
    have h2 : Hid (v % 2 = o) := ho
    clear hr ho
    go_enter Tryz.func208, Tryz.ntmps208
    go_wp2_with (go_at_call 239; (with_reducible refine (tdown_at v c r o hv hc h1 h2 _).mono ?_); rintro e w' ⟨rfl, rfl⟩)
    go_ret2
    exact ⟨rfl, rfl⟩
  · have h1 : Hid (tUp v 0 = r) := hr
    have h2 : Hid (v / 128 = o) := ho
    clear hr ho
    go_enter Tryz.func208, Tryz.ntmps208
    go_wp2_with (go_at_call 238; (with_reducible refine (up_zero v r o hv h1 h2 _).mono ?_); rintro e w' ⟨rfl, rfl⟩)
    go_ret2
    exact ⟨rfl, rfl⟩
  · have h1 : Hid (tDn v t = r) := by show _ = _; rw [← HT.out]; exact hr.out
    have h2 : Hid (v % 2 = o) := ho
    clear hr ho
    go_enter Tryz.func208, Tryz.ntmps208
    go_wp2_with (go_at_call 239; (with_reducible refine (tdown_at v t r o hv t1 h1 h2 _).mono ?_); rintro e w' ⟨rfl, rfl⟩)
    go_ret2
    exact ⟨rfl, rfl⟩
  · have h1 : Hid (tUp v 1 = r) := hr
    have h2 : Hid (v / 128 = o) := ho
    clear hr ho
    go_enter Tryz.func208, Tryz.ntmps208
    go_wp2_with (go_at_call 238; (with_reducible refine (up_one v r o hv h1 h2 _).mono ?_); rintro e w' ⟨rfl, rfl⟩)
    go_ret2
    exact ⟨rfl, rfl⟩
  · have h1 : Hid (tDn v 0 = r) := hr
    have h2 : Hid (v % 2 = o) := ho
    clear hr ho
    go_enter Tryz.func208, Tryz.ntmps208
    go_wp2_with (go_at_call 239; (with_reducible refine (down_zero v r o hv h1 h2 _).mono ?_); rintro e w' ⟨rfl, rfl⟩)
    go_ret2
    exact ⟨rfl, rfl⟩
theorem mask_at (n : Int) (k m : Nat) (hk : n % 8 = (k : Int)) (hm : Hid (2 ^ k = m)) (w : World) :
    Calls Tryz.prog 146 #[.int .i64 n] w fun e w' => e = .returned (.int .u8 (m : Int)) ∧ w = w' := by
  have h7 := i64_and7 n
  rw [hk] at h7
  have hc : k = 0 ∨ k = 1 ∨ k = 2 ∨ k = 3 ∨ k = 4 ∨ k = 5 ∨ k = 6 ∨ k = 7 := by omega
  clear hk
  rcases hc with rfl | rfl | rfl | rfl | rfl | rfl | rfl | rfl
  all_goals
    obtain rfl : m = _ := hm.out.symm
    go_enter Tryz.func146, Tryz.ntmps146
    go_wp2
    go_ret
    exact ⟨rfl, rfl⟩
theorem twhen_any (on : Bool) (n : Nat) (w : World) : Calls Tryz.prog 147 #[.bool on, .int .u8 (n : Int)] w fun e w' => e = .returned (.int .u8 ((cond on n 0 : Nat) : Int)) ∧ w = w' := by
  cases on
  all_goals
    go_enter Tryz.func147, Tryz.ntmps147
    go_wp2
    go_ret
    exact ⟨rfl, rfl⟩
theorem twhen_at (on : Bool) (n : Nat) (b : Bool) (r : Nat) (hb : on = b) (hr : Hid (cond b n 0 = r)) (w : World) : Calls Tryz.prog 147 #[.bool on, .int .u8 (n : Int)] w fun e w' => e = .returned (.int .u8 (r : Int)) ∧ w = w' := by
  rw [hb, ← hr.out]; exact twhen_any b n w
theorem tshape_at (v r : Nat) (h : v < 256) (hr : Hid (nBitsF v false = r)) (w : World) : Calls Tryz.prog 209 #[.int .u8 (v : Int)] w fun e w' => e = .returned (.int .u8 (r : Int)) ∧ w = w' := by
  have HS := Lib.hid (bits_bits v h)
  rw [hr.out] at HS
  obtain ⟨s, hs⟩ : ∃ s, nShape v = s := ⟨_, rfl⟩
  have s1 : s < 256 := hs ▸ nByte_lt _ _ _ _ _ _ _ _
  have HT := Lib.hid hs
  obtain ⟨b, hb⟩ : ∃ b, nPar v = b := ⟨_, rfl⟩
  have HB := Lib.hid hb
  obtain ⟨r', hr'⟩ : ∃ r, cond b 4 0 = r := ⟨_, rfl⟩
  have HR := Lib.hid hr'
  have r1 : r' < 256 := by rw [← hr']; cases b <;> decide
  rw [hs, hb, hr'] at HS
  clear hr' hb hs hr
  go_enter Tryz.func209, Tryz.ntmps209
  go_wp2_with (first
    | (go_at_call 226; refine (shape_at v s h HT _).mono ?_; rintro e w' ⟨rfl, rfl⟩)
    | (go_at_call 191; refine (parity_any v h _).mono ?_; rintro e w' ⟨rfl, rfl⟩; rw [HB.out])
    | (go_at_call 147; refine (twhen_at _ 4 b r' rfl HR _).mono ?_; rintro e w' ⟨rfl, rfl⟩))
  go_ret
  refine ⟨ret_byte ?_, rfl⟩
  rw [← HS.out]
  simp (disch := exact bS) only [u8_or, Int.toNat_natCast]
  rfl
theorem rot_at (op : Int) (k v f c r g : Nat) (hk : op % 8 = (k : Int)) (hv : v < 256) (hf : f < 256) (hc : Hid (f % 2 = c)) (hr : Hid (tV k v c = r)) (hg : Hid (tRotF k v c = g)) (w : World) :
    Calls Tryz.prog 149 #[.int .i64 op, .int .u8 (v : Int), .int .u8 (f : Int)] w fun e w' => e = .returned (.tuple #[.int .u8 (r : Int), .int .u8 (g : Int)]) ∧ w = w' := by
  have h7 := i64_and7 op
  rw [hk] at h7
  have k1 : k < 8 := by omega
  clear hk
  have e1 := and_one f c hf hc.out
  have c1 : c ≤ 1 := by have := hc.out; omega
  have r1 : r < 256 := by rw [← hr.out]; exact tV_lt k v c hv c1
  obtain ⟨o, ho⟩ : ∃ o, Hid (tO k v = o) := ⟨_, rfl⟩
  have o1 : o ≤ 1 := by rw [← ho.out]; exact tO_le k v hv
  obtain ⟨s, hs⟩ : ∃ s, Hid (nBitsF r false = s) := ⟨_, rfl⟩
  have s1 : s < 256 := by rw [← hs.out]; exact nBitsF_lt _ _
  have HG : Hid (s ||| o = g) := by
    show _ = _
    rw [said_bits r o s o1 hs.out, ← hg.out]
    unfold tRotF
    rw [hr.out, ho.out]
  clear hg
  go_enter Tryz.func149, Tryz.ntmps149
  go_wp2_with (first
    | (go_at_call 208; (with_reducible refine (turn_at k v c r o k1 hv c1 hr ho _).mono ?_); rintro e w' ⟨rfl, rfl⟩)
    | (go_at_call 209; (with_reducible refine (tshape_at r s r1 hs _).mono ?_); rintro e w' ⟨rfl, rfl⟩))
  go_ret2
  refine ⟨ret_pair rfl ?_, rfl⟩
  rw [← HG.out]
  exact u8_or_nat s o s1 (by omega)
theorem i64_and3 (x : Int) : bits .and .i64 x 3 = x % 4 := by
  have e : (BitVec.ofInt 64 x &&& BitVec.ofInt 64 3).toNat = (x % 4).toNat := by
    rw [BitVec.toNat_and, BitVec.toNat_ofInt, BitVec.toNat_ofInt]
    rw [show ((3 : Int) % ((2 ^ 64 : Nat) : Int)).toNat = 2 ^ 2 - 1 by decide, Nat.and_two_pow_sub_one_eq_mod]
    omega
  show IntKind.i64.wrap ((BitVec.ofInt 64 x &&& BitVec.ofInt 64 3).toNat : Int) = _
  rw [e]
  rw [IntWalk.i64_in _ (by omega)]
  omega
theorem quick_at (op : Int) (k v f c r g : Nat) (hk : op % 4 = (k : Int)) (hv : v < 256) (hf : f < 256) (hc : Hid (f % 2 = c)) (hr : Hid (tV k v c = r)) (hg : Hid (tQuickF k v c f = g)) (w : World) :
    Calls Tryz.prog 214 #[.int .i64 op, .int .u8 (v : Int), .int .u8 (f : Int)] w fun e w' => e = .returned (.tuple #[.int .u8 (r : Int), .int .u8 (g : Int)]) ∧ w = w' := by
  have h3 := i64_and3 op
  rw [hk] at h3
  have k1 : (k : Int) % 8 = (k : Int) := by omega
  clear hk
  have c1 : c ≤ 1 := by have := hc.out; omega
  have r1 : r < 256 := by rw [← hr.out]; exact tV_lt k v c hv c1
  obtain ⟨t, ht⟩ : ∃ t, Hid (tRotF k v c = t) := ⟨_, rfl⟩
  have t1 : t < 256 := by rw [← ht.out]; exact tRotF_lt _ _ _
  have HG : Hid (((f &&& 196) ||| (r &&& 40)) ||| (t &&& 1) = g) := by
    show _ = _
    rw [rot_one k v c t hv ht.out]
    exact quick_bits k v c f r _ g hv hf c1 hr.out rfl hg.out
  have HK := Lib.hid k1
  clear hg k1
  go_enter Tryz.func214, Tryz.ntmps214
  go_wp2_with (go_at_call 149; (with_reducible refine (rot_at (k : Int) k v f c r t HK.out hv hf hc hr ht _).mono ?_); rintro e w' ⟨rfl, rfl⟩)
  go_ret2
  refine ⟨ret_pair rfl ?_, rfl⟩
  rw [← HG.out]
  simp (disch := exact bS) only [u8_and, Int.reduceToNat, Int.toNat_natCast]
  simp (disch := exact bS) only [u8_or, Int.toNat_natCast]
theorem pow_lt8 (k m : Nat) (hk : k < 8) (hm : 2 ^ k = m) : m < 256 := by
  have hc : k = 0 ∨ k = 1 ∨ k = 2 ∨ k = 3 ∨ k = 4 ∨ k = 5 ∨ k = 6 ∨ k = 7 := by omega
  rcases hc with rfl | rfl | rfl | rfl | rfl | rfl | rfl | rfl <;> omega
theorem bit_at (n : Int) (k v f b g : Nat) (hk : n % 8 = (k : Int)) (hv : v < 256) (hf : f < 256) (hb : b < 256) (hg : Hid (tBitF k v f b = g)) (w : World) :
    Calls Tryz.prog 85 #[.int .i64 n, .int .u8 (v : Int), .int .u8 (f : Int), .int .u8 (b : Int)] w fun e w' => e = .returned (.int .u8 (g : Int)) ∧ w = w' := by
  have k1 : k < 8 := by omega
  obtain ⟨m, hm⟩ : ∃ m : Nat, Hid (2 ^ k = m) := ⟨_, rfl⟩
  have m1 := pow_lt8 k m k1 hm.out
  obtain ⟨x, hx⟩ : ∃ x, v &&& m = x := ⟨_, rfl⟩
  have x1 : x < 256 := hx ▸ and8 hv
  have e1 : bits .and .u8 (v : Int) (m : Int) = (x : Int) := by rw [u8_and_nat v m hv m1, hx]
  obtain ⟨z, hz⟩ : ∃ z : Nat, Hid (cond (Nat.beq x 0) 68 0 = z) := ⟨_, rfl⟩
  have z1 : z < 256 := by rw [← hz.out]; cases Nat.beq x 0 <;> decide
  have HG : Hid (((((x &&& 128) ||| z) ||| 16) ||| (f &&& 1)) ||| (b &&& 40) = g) :=
    bit_bits k v f b x g z k1 hv hf hb (by rw [hm.out, hx]) hz.out hg.out
  have HK := Lib.hid hk
  clear hg hk hx
  go_enter Tryz.func85, Tryz.ntmps85
  go_wp2_with (first
    | (go_at_call 146; (with_reducible refine (mask_at n k m HK.out hm _).mono ?_); rintro e w' ⟨rfl, rfl⟩)
    | (go_at_call 147; refine (twhen_at _ 68 (Nat.beq x 0) z (by rw [Bool.eq_iff_iff, beq_iff_eq, Nat.beq_eq]; omega) hz _).mono ?_; rintro e w' ⟨rfl, rfl⟩))
  go_ret
  refine ⟨ret_byte ?_, rfl⟩
  rw [← HG.out]
  simp (disch := exact bS) only [u8_and, u8_or, Int.reduceToNat, Int.toNat_natCast]
  try rfl
theorem put_at (n : Int) (k v r : Nat) (on : Bool) (hk : n % 8 = (k : Int)) (hv : v < 256) (hr : Hid (tPut k v on = r)) (w : World) :
    Calls Tryz.prog 150 #[.int .i64 n, .int .u8 (v : Int), .bool on] w fun e w' => e = .returned (.int .u8 (r : Int)) ∧ w = w' := by
  have k1 : k < 8 := by omega
  obtain ⟨m, hm⟩ : ∃ m : Nat, Hid (2 ^ k = m) := ⟨_, rfl⟩
  have m1 := pow_lt8 k m k1 hm.out
  obtain ⟨z, hz⟩ : ∃ z : Nat, Hid (cond on m 0 = z) := ⟨_, rfl⟩
  have z1 : z < 256 := by rw [← hz.out]; cases on <;> simp <;> omega
  have HR : Hid ((v &&& (255 - m)) ||| z = r) := by
    show _ = _
    rw [← hz.out, put_bits k v on m k1 hv hm.out, hr.out]
  have HK := Lib.hid hk
  clear hr hk
  go_enter Tryz.func150, Tryz.ntmps150
  go_wp2_with (first
    | (go_at_call 146; (with_reducible refine (mask_at n k m HK.out hm _).mono ?_); rintro e w' ⟨rfl, rfl⟩)
    | (go_at_call 147; (with_reducible refine (twhen_at on m on z rfl hz _).mono ?_); rintro e w' ⟨rfl, rfl⟩))
  go_ret
  refine ⟨ret_byte ?_, rfl⟩
  rw [← HR.out]
  simp (disch := exact bS) only [u8_andNot, Int.toNat_natCast]
  exact u8_or_nat _ z (and8 hv) z1
end Go.Proofs.YtljjgakfnajifaaGreatDoor
namespace Go.Proofs.YtljjgakfnajifaaGreatDoor
open Go.RowKit
theorem dig_said (r f s g : Nat) (hf : f < 256) (hs : nBitsF r false = s) (hg : tSaid r (nBit 1 f) = g) : s ||| (f &&& 1) = g := by
  rw [one_bit f hf, ← hg]
  cases h : nBit 1 f
  · exact said_bits r 0 s (by omega) hs
  · exact said_bits r 1 s (by omega) hs
theorem digits_at (left : Bool) (a m f r q g : Nat) (ha : a < 256) (hm : m < 256) (hf : f < 256) (hr : Hid (tDigA left a m = r)) (hq : Hid (tDigM left a m = q)) (hg : Hid (tDigF left a m f = g)) (w : World) :
    Calls Tryz.prog 232 #[.bool left, .int .u8 (a : Int), .int .u8 (m : Int), .int .u8 (f : Int)] w fun e w' => e = .returned (.tuple #[.int .u8 (r : Int), .int .u8 (q : Int), .int .u8 (g : Int)]) ∧ w = w' := by
  have r1 : r < 256 := by rw [← hr.out]; exact tDigA_lt left a m ha hm
  obtain ⟨s, hs⟩ : ∃ s, Hid (nBitsF r false = s) := ⟨_, rfl⟩
  have s1 : s < 256 := by rw [← hs.out]; exact nBitsF_lt _ _
  have HG : Hid (s ||| (f &&& 1) = g) := by
    show _ = _
    refine dig_said r f s g hf hs.out ?_
    rw [← hg.out, ← hr.out]; rfl
  obtain ⟨u, hu⟩ : ∃ u, a / 16 * 16 = u := ⟨_, rfl⟩
  obtain ⟨p, hp⟩ : ∃ p, a % 16 = p := ⟨_, rfl⟩
  obtain ⟨l, hl⟩ : ∃ l, m % 16 = l := ⟨_, rfl⟩
  obtain ⟨h, hh⟩ : ∃ h, m / 16 = h := ⟨_, rfl⟩
  have e1 : bits .andNot .u8 (a : Int) 15 = (u : Int) := by
    rw [u8_andNot _ _ (by omega) (by omega) (by omega) (by omega), ← hu, ← upper_bits a ha]; rfl
  have e2 : bits .and .u8 (m : Int) 15 = (l : Int) := by
    rw [u8_and _ _ (by omega) (by omega) (by omega) (by omega), ← hl, ← low_bits m hm]; rfl
  have e3 : bits .and .u8 (a : Int) 15 = (p : Int) := by
    rw [u8_and _ _ (by omega) (by omega) (by omega) (by omega), ← hp, ← low_bits a ha]; rfl
  have e4 : (m : Int) / 16 = (h : Int) := by omega
  have e5 : (a : Int) * 16 % 256 = ((p * 16 : Nat) : Int) := by omega
  have e6 : (l : Int) * 16 = ((l * 16 : Nat) : Int) := by omega
  have x1 : u ||| h = u + h := by
    have := two_digits (a / 16) h (by omega) (by omega)
    rw [hu] at this; exact this
  have x2 : u ||| l = u + l := by
    have := two_digits (a / 16) l (by omega) (by omega)
    rw [hu] at this; exact this
  have e7 : bits .or .u8 (u : Int) (h : Int) = ((u + h : Nat) : Int) := by rw [u8_or_nat u h (by omega) (by omega), x1]
  have e8 : bits .or .u8 (u : Int) (l : Int) = ((u + l : Nat) : Int) := by rw [u8_or_nat u l (by omega) (by omega), x2]
  have e9 : bits .or .u8 ((l : Int) * 16) (p : Int) = ((l * 16 + p : Nat) : Int) := by rw [e6, u8_or_nat _ p (by omega) (by omega), two_digits l p (by omega) (by omega)]
  have e10 : bits .or .u8 ((a : Int) * 16 % 256) (h : Int) = ((p * 16 + h : Nat) : Int) := by rw [e5, u8_or_nat _ h (by omega) (by omega), two_digits p h (by omega) (by omega)]
  have l1 : (l : Int) < 16 := by omega
  cases left
  · have hr2 : ((u + l : Nat) : Int) = (r : Int) := by rw [← hr.out, ← hu, ← hl]; rfl
    have hq2 : ((p * 16 + h : Nat) : Int) = (q : Int) := by rw [← hq.out, ← hp, ← hh]; rfl
    rw [hr2] at e8
    rw [hq2] at e10
    clear hr hq hg e5 e6 e7 e9 x1 x2 hu hp hl hh hr2 hq2
    go_enter Tryz.func232, Tryz.ntmps232
    go_wp2_with (go_at_call 209; (with_reducible refine (tshape_at r s r1 hs _).mono ?_); rintro e w' ⟨rfl, rfl⟩)
    go_ret3
    refine ⟨ret_three rfl rfl ?_, rfl⟩
    rw [← HG.out]
    simp (disch := exact bS) only [u8_and, u8_or, Int.reduceToNat, Int.toNat_natCast]
  · have hr2 : ((u + h : Nat) : Int) = (r : Int) := by rw [← hr.out, ← hu, ← hh]; rfl
    have hq2 : ((l * 16 + p : Nat) : Int) = (q : Int) := by rw [← hq.out, ← hp, ← hl]; rfl
    rw [hr2] at e7
    rw [hq2] at e9
    clear hr hq hg e5 e6 e8 e10 x1 x2 hu hp hl hh hr2 hq2
    go_enter Tryz.func232, Tryz.ntmps232
    go_wp2_with (go_at_call 209; (with_reducible refine (tshape_at r s r1 hs _).mono ?_); rintro e w' ⟨rfl, rfl⟩)
    go_ret3
    refine ⟨ret_three rfl rfl ?_, rfl⟩
    rw [← HG.out]
    simp (disch := exact bS) only [u8_and, u8_or, Int.reduceToNat, Int.toNat_natCast]
end Go.Proofs.YtljjgakfnajifaaGreatDoor
namespace Go.Proofs.YtljjgakfnajifaaGreatDoor
open Go.RowKit
theorem ret_seek {a : Int} {v : Nat} {b c : Bool} (h : a = (v : Int)) (h' : b = c) : (Ending.returned (.tuple #[.int .u8 a, .bool b]) : Ending) = .returned (.tuple #[.int .u8 (v : Int), .bool c]) := by rw [h, h']
theorem rwhen_any (on : Bool) (n : Nat) (w : World) : Calls Tryz.prog 241 #[.bool on, .int .u8 (n : Int)] w fun e w' => e = .returned (.int .u8 ((cond on n 0 : Nat) : Int)) ∧ w = w' := by
  cases on
  all_goals
    go_enter Tryz.func241, Tryz.ntmps241
    go_wp2
    go_ret
    exact ⟨rfl, rfl⟩
theorem rwhen_at (on : Bool) (n : Nat) (b : Bool) (r : Nat) (hb : on = b) (hr : Hid (cond b n 0 = r)) (w : World) : Calls Tryz.prog 241 #[.bool on, .int .u8 (n : Int)] w fun e w' => e = .returned (.int .u8 (r : Int)) ∧ w = w' := by
  rw [hb, ← hr.out]; exact rwhen_any b n w
theorem rwhen_4 (on : Bool) (b : Bool) (r : Nat) (hb : on = b) (hr : Hid (cond b 4 0 = r)) (w : World) : Calls Tryz.prog 241 #[.bool on, .int .u8 4] w fun e w' => e = .returned (.int .u8 (r : Int)) ∧ w = w' := rwhen_at on 4 b r hb hr w
theorem rwhen_17 (on : Bool) (b : Bool) (r : Nat) (hb : on = b) (hr : Hid (cond b 17 0 = r)) (w : World) : Calls Tryz.prog 241 #[.bool on, .int .u8 17] w fun e w' => e = .returned (.int .u8 (r : Int)) ∧ w = w' := rwhen_at on 17 b r hb hr w
theorem stray_at (n r : Nat) (hn : n < 256) (hr : Hid (rYX n = r)) (w : World) : Calls Tryz.prog 242 #[.int .u8 (n : Int)] w fun e w' => e = .returned (.int .u8 (r : Int)) ∧ w = w' := by
  obtain ⟨x, hx⟩ : ∃ x, n &&& 2 = x := ⟨_, rfl⟩
  have x2 : x ≤ 2 := by rw [← hx]; exact Nat.and_le_right
  have e1 : bits .and .u8 (n : Int) 2 = (x : Int) := by rw [u8_and n 2 (by omega) (by omega) (by omega) (by omega), Int.toNat_natCast, ← hx]; rfl
  have HR : Hid ((x * 16) ||| (n &&& 8) = r) := by show _ = _; rw [← hx, stray_is n hn]; exact hr.out
  clear hr hx
  go_enter Tryz.func242, Tryz.ntmps242
  go_wp2
  go_ret
  refine ⟨ret_byte ?_, rfl⟩
  rw [← HR.out, show ((x : Int) * 16) = ((x * 16 : Nat) : Int) by omega]
  simp (disch := exact bS) only [u8_and, u8_or, Int.reduceToNat, Int.toNat_natCast]
set_option maxHeartbeats 800000 in
theorem load_at (a v f left r : Nat) (p : Bool) (hf : f < 256) (hp : Hid ((p = true) ↔ left ≠ 0)) (hr : Hid (rLoad a v f p = r)) (w : World) :
    Calls Tryz.prog 235 #[.int .u8 (a : Int), .int .u8 (v : Int), .int .u8 (f : Int), .int .u16 (left : Int)] w fun e w' => e = .returned (.int .u8 (r : Int)) ∧ w = w' := by
  obtain ⟨n, hn⟩ : ∃ n, rSum a v = n := ⟨_, rfl⟩
  have n1 : n < 256 := hn ▸ rSum_lt _ _
  have e1 : ((a : Int) + (v : Int)) % 256 = (n : Int) := by have h : (a + v) % 256 = n := hn; omega
  obtain ⟨k, hk⟩ : ∃ k : Nat, Hid (cond p 4 0 = k) := ⟨_, rfl⟩
  have k1 : k < 256 := by rw [← hk.out]; cases p <;> decide
  obtain ⟨t, ht⟩ : ∃ t, Hid (rYX n = t) := ⟨_, rfl⟩
  have t1 : t < 256 := by rw [← ht.out]; exact rYX_lt _
  have HR : Hid (((f &&& 193) ||| k) ||| t = r) := by
    show _ = _
    rw [← hk.out, ← ht.out, load_is f n p hf, ← hr.out]; unfold rLoad; rw [hn]
  clear hr hn
  go_enter Tryz.func235, Tryz.ntmps235
  go_wp2_with (first
    | (go_at_call 241; refine (rwhen_at _ 4 p k (by rw [Bool.eq_iff_iff, hp.out]; simp) hk _).mono ?_; rintro e w' ⟨rfl, rfl⟩)
    | (go_at_call 242; (with_reducible refine (stray_at n t n1 ht _).mono ?_); rintro e w' ⟨rfl, rfl⟩))
  go_ret
  refine ⟨ret_byte ?_, rfl⟩
  rw [← HR.out]
  simp (disch := exact bS) only [u8_and, u8_or, Int.reduceToNat, Int.toNat_natCast]
set_option maxHeartbeats 1600000 in
theorem seek_at (a v f left r : Nat) (p o : Bool) (ha : a < 256) (hv : v < 256) (hf : f < 256) (hp : Hid ((p = true) ↔ left ≠ 0)) (hr : Hid (rSeekF a v f p = r)) (ho : Hid (rSeekOn a v p = o)) (w : World) :
    Calls Tryz.prog 236 #[.int .u8 (a : Int), .int .u8 (v : Int), .int .u8 (f : Int), .int .u16 (left : Int)] w fun e w' => e = .returned (.tuple #[.int .u8 (r : Int), .bool o]) ∧ w = w' := by
  obtain ⟨m, hm⟩ : ∃ m, Hid (nSubV a v 0 = m) := ⟨_, rfl⟩
  obtain ⟨g, hg⟩ : ∃ g, Hid (nSubF a v 0 = g) := ⟨_, rfl⟩
  have m1 : m < 256 := by rw [← hm.out]; exact nSubV_lt _ _ _
  have g1 : g < 256 := by rw [← hg.out]; exact nSubF_lt _ _ _
  have r1 : r < 256 := by rw [← hr.out]; exact rSeekF_lt _ _ _ _
  have gN : nBit 2 g = true := by rw [← hg.out]; exact sub_n _ _ _
  obtain ⟨n, hn⟩ : ∃ n, rLess m (nBit 16 g) = n := ⟨_, rfl⟩
  have n1 : n < 256 := hn ▸ rLess_lt _ _ m1
  have e1 := less_is m (nBit 16 g) m1
  rw [hn, ← half_is g g1] at e1
  have HF : Hid (rSeek g n f p = r) := by show _ = _; rw [← hr.out]; unfold rSeekF; rw [hm.out, hg.out, hn]
  have HO : Hid (rOn g p = o) := by show _ = _; rw [← hg.out, rOn_is a v p ha hv]; exact ho.out
  obtain ⟨s, hs⟩ : ∃ s, g &&& 210 = s := ⟨_, rfl⟩
  have s1 : s < 256 := by rw [← hs]; exact and8 g1
  obtain ⟨k, hk⟩ : ∃ k : Nat, Hid (cond p 4 0 = k) := ⟨_, rfl⟩
  have k1 : k < 256 := by rw [← hk.out]; cases p <;> decide
  obtain ⟨t, ht⟩ : ∃ t, Hid (rYX n = t) := ⟨_, rfl⟩
  have t1 : t < 256 := by rw [← ht.out]; exact rYX_lt _
  have HR : Hid (((s ||| (f &&& 1)) ||| k) ||| t = r) := by
    show _ = _
    rw [← hk.out, ← ht.out, ← hs, seek_is g n f p g1 hf gN, HF.out]
  rw [hs] at e1
  obtain ⟨j, hj⟩ : ∃ j, s &&& 16 = j := ⟨_, rfl⟩
  have j1 : j < 256 := by rw [← hj]; exact and8 s1
  rw [hj] at e1
  have e2 : bits .and .u8 (s : Int) 16 = (j : Int) := by rw [u8_and s 16 (by omega) (by omega) (by omega) (by omega), Int.toNat_natCast, ← hj]; rfl
  have e3 : bits .and .u8 (g : Int) 210 = (s : Int) := by rw [u8_and g 210 (by omega) (by omega) (by omega) (by omega), Int.toNat_natCast, ← hs]; rfl
  have e4 : bits .or .u8 (bits .or .u8 (bits .or .u8 (s : Int) (bits .and .u8 (f : Int) 1)) (k : Int)) (t : Int) = (r : Int) := by
    rw [← HR.out]
    simp (disch := exact bS) only [u8_and, u8_or, Int.reduceToNat, Int.toNat_natCast]
  have e5 : bits .and .u8 (r : Int) 68 = ((r &&& 68 : Nat) : Int) := by rw [u8_and r 68 (by omega) (by omega) (by omega) (by omega), Int.toNat_natCast]; rfl
  have e6 : (((r &&& 68 : Nat) : Int) == 4) = o := by rw [← HO.out, Bool.eq_iff_iff, beq_iff_eq, ← HF.out]; exact on_is g n f p
  obtain ⟨q, hq⟩ : ∃ q, r &&& 68 = q := ⟨_, rfl⟩
  rw [hq] at e5 e6
  have e7 : ((m : Int) - (j : Int) / 16) % 256 = (n : Int) := e1
  clear hr ho hn gN HR hs hj e1 hq
  go_enter Tryz.func236, Tryz.ntmps236
  go_wp2_with (first
    | (go_at_call 136; refine (sub_at a v false m g ha hv hm hg _).mono ?_; rintro e w' ⟨rfl, rfl⟩)
    | (go_at_call 241; refine (rwhen_at _ 4 p k (by rw [Bool.eq_iff_iff, hp.out]; simp) hk _).mono ?_; rintro e w' ⟨rfl, rfl⟩)
    | (go_at_call 242; (with_reducible refine (stray_at n t n1 ht _).mono ?_); rintro e w' ⟨rfl, rfl⟩))
  go_ret2
  exact ⟨rfl, rfl⟩
set_option maxHeartbeats 1600000 in
theorem port_at (v m b r : Nat) (hv : v < 256) (hm : m < 256) (hb : b < 256) (hr : Hid (rPort v m b = r)) (w : World) :
    Calls Tryz.prog 237 #[.int .u8 (v : Int), .int .u8 (m : Int), .int .u8 (b : Int)] w fun e w' => e = .returned (.int .u8 (r : Int)) ∧ w = w' := by
  obtain ⟨t, ht⟩ : ∃ t, v + m = t := ⟨_, rfl⟩
  have t1 : t < 511 := by omega
  have e1 : (v : Int) + (m : Int) = (t : Int) := by omega
  obtain ⟨k, hk⟩ : ∃ k, Nat.ble 256 (Nat.add v m) = k := ⟨_, rfl⟩
  have e2 : decide ((255 : Int) < (t : Int)) = k := by rw [Bool.eq_iff_iff, decide_eq_true_eq, ← hk, Nat.ble_eq]; show _ ↔ 256 ≤ v + m; omega
  obtain ⟨j, hj⟩ : ∃ j, t % 8 = j := ⟨_, rfl⟩
  have j1 : j < 8 := by omega
  have e3 : bits .and .i64 (t : Int) 7 = (j : Int) := by rw [i64_and7]; omega
  obtain ⟨x, hx⟩ : ∃ x, b ^^^ j = x := ⟨_, rfl⟩
  have x1 : x < 256 := hx ▸ xor8 hb (by omega)
  have e4 : bits .xor .u8 (b : Int) (j : Int) = (x : Int) := by rw [u8_xor_nat b j hb (by omega), hx]
  obtain ⟨o, ho⟩ : ∃ o, Hid (nPar x = o) := ⟨_, rfl⟩
  obtain ⟨s, hs⟩ : ∃ s, Hid (nShape b = s) := ⟨_, rfl⟩
  have s1 : s < 256 := by rw [← hs.out]; exact nByte_lt _ _ _ _ _ _ _ _
  obtain ⟨c, hc⟩ : ∃ c : Nat, Hid (cond k 17 0 = c) := ⟨_, rfl⟩
  have c1 : c < 256 := by rw [← hc.out]; cases k <;> decide
  obtain ⟨d, hd⟩ : ∃ d : Nat, Hid (cond o 4 0 = d) := ⟨_, rfl⟩
  have d1 : d < 256 := by rw [← hd.out]; cases o <;> decide
  obtain ⟨y, hy⟩ : ∃ y, v &&& 128 = y := ⟨_, rfl⟩
  have y1 : y < 256 := hy ▸ and8 hv
  have e5 : bits .and .u8 (v : Int) 128 = (y : Int) := by rw [u8_and v 128 (by omega) (by omega) (by omega) (by omega), Int.toNat_natCast, ← hy]; rfl
  have HR : Hid ((((s ||| (y / 64)) ||| c) ||| d) = r) := by
    show _ = _
    rw [← hs.out, ← hc.out, ← hd.out, ← hy, port_is v m b hv k o hk (by show nPar (b ^^^ (v + m) % 8) = o; rw [ht, hj, hx]; exact ho.out)]; exact hr.out
  clear hr hk ht hj hx hy
  go_enter Tryz.func237, Tryz.ntmps237
  go_wp2_with (first
    | (go_at_call 191; (with_reducible refine (parity_at x o x1 ho _).mono ?_); rintro e w' ⟨rfl, rfl⟩)
    | (go_at_call 226; (with_reducible refine (shape_at b s hb hs _).mono ?_); rintro e w' ⟨rfl, rfl⟩)
    | (go_at_call 241; first
      | ((with_reducible refine (rwhen_4 o o d rfl hd _).mono ?_); rintro e w' ⟨rfl, rfl⟩)
      | ((with_reducible refine (rwhen_17 k k c rfl hc _).mono ?_); rintro e w' ⟨rfl, rfl⟩)))
  go_ret
  refine ⟨ret_byte ?_, rfl⟩
  rw [← HR.out, show ((y : Int) / 64) = ((y / 64 : Nat) : Int) by omega]
  simp (disch := exact bS) only [u8_or, Int.toNat_natCast]
end Go.Proofs.YtljjgakfnajifaaGreatDoor
