/-
  Package pairs' functions, each by one contract.
-/
import Derived.Test.YtogohngbafnokaaPairSpec
import Derived.Lib.Hide
namespace Go.Proofs.Ytogohngbafnokaa
open Go.RowKit

theorem ret_wide {a b : Int} {v f : Nat} (h : a = (v : Int)) (h' : b = (f : Int)) : (Ending.returned (.tuple #[.int .u16 a, .int .u8 b]) : Ending) = .returned (.tuple #[.int .u16 (v : Int), .int .u8 (f : Int)]) := by rw [h, h']
theorem ret_two {a b : Int} {v f : Nat} (h : a = (v : Int)) (h' : b = (f : Int)) : (Ending.returned (.tuple #[.int .u8 a, .int .u8 b]) : Ending) = .returned (.tuple #[.int .u8 (v : Int), .int .u8 (f : Int)]) := by rw [h, h']
theorem ret_byte {a : Int} {v : Nat} (h : a = (v : Int)) : (Ending.returned (.int .u8 a) : Ending) = .returned (.int .u8 (v : Int)) := by rw [h]
theorem ret_word {a : Int} {v : Nat} (h : a = (v : Int)) : (Ending.returned (.int .u16 a) : Ending) = .returned (.int .u16 (v : Int)) := by rw [h]

theorem and8i {a b : Nat} (h : a < 256) : ((a &&& b : Nat) : Int) < 256 := by have := and8 (b := b) h; omega
theorem and8i' {a b : Nat} (h : b < 256) : ((a &&& b : Nat) : Int) < 256 := by have := and8' (a := a) h; omega
theorem or8i {a b : Nat} (h : a < 256) (h' : b < 256) : ((a ||| b : Nat) : Int) < 256 := by have := or8 h h'; omega
theorem xor8i {a b : Nat} (h : a < 256) (h' : b < 256) : ((a ^^^ b : Nat) : Int) < 256 := by have := xor8 h h'; omega

theorem high_at (v r : Nat) (hv : v < 65536) (hr : Hid (wHigh v = r)) (w : World) : Calls Try.prog 23 #[.int .u16 (v : Int)] w fun e w' => e = .returned (.int .u8 (r : Int)) ∧ w = w' := by
  go_enter Try.func23, Try.ntmps23
  go_wp2
  go_ret
  refine ⟨ret_byte ?_, rfl⟩
  have h : v / 256 = r := hr.out
  omega

theorem zero_at (v r : Nat) (hr : Hid (cond (nZ v) 64 0 = r)) (w : World) : Calls Try.prog 24 #[.int .u16 (v : Int)] w fun e w' => e = .returned (.int .u8 (r : Int)) ∧ w = w' := by
  by_cases h : (v : Int) = 0
  · have e : v = 0 := by omega
    subst e
    have e : 64 = r := hr.out
    subst e
    go_enter Try.func24, Try.ntmps24
    go_wp2
    go_ret
    exact ⟨rfl, rfl⟩
  · have e : 0 = r := by
      rw [← hr.out, show nZ v = false from by unfold nZ; rw [← Bool.not_eq_true, Nat.beq_eq]; omega]; rfl
    subst e
    go_enter Try.func24, Try.ntmps24
    go_wp2
    go_ret
    exact ⟨rfl, rfl⟩

theorem split_at (v h l : Nat) (hv : v < 65536) (hh : Hid (wHigh v = h)) (hl : Hid (v % 256 = l)) (w : World) :
    Calls Try.prog 15 #[.int .u16 (v : Int)] w fun e w' => e = .returned (.tuple #[.int .u8 (h : Int), .int .u8 (l : Int)]) ∧ w = w' := by
  have e : (v : Int) % 256 = (l : Int) := by have := hl.out; omega
  go_enter Try.func15, Try.ntmps15
  go_wp2_with (go_at_call 23; (with_reducible refine (high_at v h hv hh _).mono ?_); rintro e w' ⟨rfl, rfl⟩)
  go_ret2
  exact ⟨ret_two rfl e, rfl⟩

set_option maxHeartbeats 800000 in
theorem together_at (a b c v t : Nat) (ha : a < 65536) (hb : b < 65536) (hc : c ≤ 1) (hv : Hid (wAddV a b c = v)) (ht : Hid (wTold a b c = t)) (w : World) :
    Calls Try.prog 22 #[.int .u16 (a : Int), .int .u16 (b : Int), .int .u8 (c : Int)] w fun e w' => e = .returned (.tuple #[.int .u16 (v : Int), .int .u8 (t : Int)]) ∧ w = w' := by
  have v1 : v < 65536 := by rw [← hv.out]; exact wAddV_lt _ _ _
  obtain ⟨x, hx⟩ : ∃ x, a ^^^ b ^^^ v = x := ⟨_, rfl⟩
  have x1 : x < 65536 := by rw [← hx]; exact Nat.xor_lt_two_pow (n := 16) (Nat.xor_lt_two_pow (n := 16) ha hb) v1
  obtain ⟨h, hh⟩ : ∃ h, Hid (wHigh x = h) := ⟨_, rfl⟩
  have h1 : h < 256 := by rw [← hh.out]; exact wHigh_lt _ x1
  have HT : Hid (((a + b + c) / 65536 &&& 1) ||| (h &&& 16) = t) := by
    have h := told_bits a b c v ha hb hc hv.out
    rw [hx, hh.out, ht.out] at h
    exact h
  have e1 : IntKind.u16.wrap ((a : Int) + (b : Int) + (c : Int)) = (v : Int) := by
    have : (a + b + c) % 65536 = v := hv.out
    rw [IntKind.wrap_u16]
    omega
  have ab : a ^^^ b < 65536 := Nat.xor_lt_two_pow (n := 16) ha hb
  have e2 : bits .xor .u16 (bits .xor .u16 (a : Int) (b : Int)) (v : Int) = (x : Int) := by
    rw [u16_xor_nat a b ha hb, u16_xor_nat _ v ab v1, hx]
  clear hv ht hx ab
  go_enter Try.func22, Try.ntmps22
  go_wp2_with (go_at_call 23; (with_reducible refine (high_at x h x1 hh _).mono ?_); rintro e w' ⟨rfl, rfl⟩)
  go_ret2
  refine ⟨ret_wide rfl ?_, rfl⟩
  rw [← HT.out]
  obtain ⟨q, hq⟩ : ∃ q, (a + b + c) / 65536 = q := ⟨_, rfl⟩
  have q1 : q < 256 := by omega
  have e3 : ((a : Int) + (b : Int) + (c : Int)) / 65536 = (q : Int) := by omega
  rw [hq, e3, u8_and q 1 (by omega) (by omega) (by omega) (by omega), u8_and h 16 (by omega) (by omega) (by omega) (by omega)]
  exact u8_or_nat (q &&& 1) (h &&& 16) (and8 q1) (and8 h1)

theorem and_one (f c : Nat) (hf : f < 256) (hc : Hid (f % 2 = c)) : bits .and .u8 (f : Int) 1 = (c : Int) := by
  rw [u8_and f 1 (by omega) (by omega) (by omega) (by omega), ← hc.out, ← Nat.and_one_is_mod]; rfl

set_option maxHeartbeats 1600000 in
theorem adc_at (a b f c v g : Nat) (ha : a < 65536) (hb : b < 65536) (hf : f < 256) (hc : Hid (f % 2 = c)) (hv : Hid (wAddV a b c = v)) (hg : Hid (wAdcF a b c = g)) (w : World) :
    Calls Try.prog 8 #[.int .u16 (a : Int), .int .u16 (b : Int), .int .u8 (f : Int)] w fun e w' => e = .returned (.tuple #[.int .u16 (v : Int), .int .u8 (g : Int)]) ∧ w = w' := by
  have c1 : c ≤ 1 := by have := hc.out; omega
  have v1 : v < 65536 := by rw [← hv.out]; exact wAddV_lt _ _ _
  have hf1 := and_one f c hf hc
  obtain ⟨t, ht⟩ : ∃ t, Hid (wTold a b c = t) := ⟨_, rfl⟩
  have t1 : t < 256 := by rw [← ht.out]; exact wTold_lt _ _ _
  obtain ⟨h, hh⟩ : ∃ h, Hid (wHigh v = h) := ⟨_, rfl⟩
  have h1 : h < 256 := by rw [← hh.out]; exact wHigh_lt _ v1
  obtain ⟨z, hz⟩ : ∃ z : Nat, Hid (cond (nZ v) 64 0 = z) := ⟨_, rfl⟩
  have z1 : z < 256 := by rw [← hz.out]; cases nZ v <;> decide
  obtain ⟨m, hm⟩ : ∃ m, (a ^^^ v) &&& (b ^^^ v) = m := ⟨_, rfl⟩
  have av : a ^^^ v < 65536 := Nat.xor_lt_two_pow (n := 16) ha v1
  have bv : b ^^^ v < 65536 := Nat.xor_lt_two_pow (n := 16) hb v1
  have m1 : m < 65536 := by rw [← hm]; exact Nat.lt_of_le_of_lt Nat.and_le_left av
  have HG : Hid (((t ||| (m / 8192 &&& 4)) ||| (h &&& 168)) ||| z = g) := by
    have h := wadc_flags a b c v t g z ha hb c1 hv.out ht.out hg.out hz.out
    rw [hm, hh.out] at h
    exact h
  have e2 : bits .and .u16 (bits .xor .u16 (a : Int) (v : Int)) (bits .xor .u16 (b : Int) (v : Int)) = (m : Int) := by
    rw [u16_xor_nat a v ha v1, u16_xor_nat b v hb v1, u16_and_nat _ _ av bv, hm]
  clear hg hm av bv
  go_enter Try.func8, Try.ntmps8
  go_wp2_with (first
    | (go_at_call 22; (with_reducible refine (together_at a b c v t ha hb c1 hv ht _).mono ?_); rintro e w' ⟨rfl, rfl⟩)
    | (go_at_call 23; (with_reducible refine (high_at v h v1 hh _).mono ?_); rintro e w' ⟨rfl, rfl⟩)
    | (go_at_call 24; (with_reducible refine (zero_at v z hz _).mono ?_); rintro e w' ⟨rfl, rfl⟩))
  go_ret2
  refine ⟨ret_wide rfl ?_, rfl⟩
  rw [← HG.out]
  obtain ⟨q, hq⟩ : ∃ q, m / 8192 = q := ⟨_, rfl⟩
  have q1 : q < 256 := by omega
  have e3 : (m : Int) / 8192 = (q : Int) := by omega
  rw [hq, e3]
  clear e3 hq e2 hf1
  simp (disch := (focus repeat' (first | assumption | omega | exact Int.natCast_nonneg _ | with_reducible apply or8i | with_reducible apply xor8i | with_reducible apply or8 | with_reducible apply xor8 | ((with_reducible apply and8i'); omega) | ((with_reducible apply and8'); omega) | with_reducible apply and8i | with_reducible apply and8))) only [u8_and, Int.reduceToNat, Int.toNat_natCast]
  simp (disch := (focus repeat' (first | assumption | omega | exact Int.natCast_nonneg _ | with_reducible apply or8i | with_reducible apply xor8i | with_reducible apply or8 | with_reducible apply xor8 | ((with_reducible apply and8i'); omega) | ((with_reducible apply and8'); omega) | with_reducible apply and8i | with_reducible apply and8))) only [u8_or, Int.toNat_natCast]

set_option maxHeartbeats 1600000 in
theorem add_at (a b f v g : Nat) (ha : a < 65536) (hb : b < 65536) (hf : f < 256) (hv : Hid (wAddV a b 0 = v)) (hg : Hid (wAddF a b f = g)) (w : World) :
    Calls Try.prog 11 #[.int .u16 (a : Int), .int .u16 (b : Int), .int .u8 (f : Int)] w fun e w' => e = .returned (.tuple #[.int .u16 (v : Int), .int .u8 (g : Int)]) ∧ w = w' := by
  have v1 : v < 65536 := by rw [← hv.out]; exact wAddV_lt _ _ _
  obtain ⟨t, ht⟩ : ∃ t, Hid (wTold a b 0 = t) := ⟨_, rfl⟩
  have t1 : t < 256 := by rw [← ht.out]; exact wTold_lt _ _ _
  obtain ⟨h, hh⟩ : ∃ h, Hid (wHigh v = h) := ⟨_, rfl⟩
  have h1 : h < 256 := by rw [← hh.out]; exact wHigh_lt _ v1
  have HG : Hid ((t ||| (f &&& 196)) ||| (h &&& 40) = g) := by
    have h := wadd_flags a b f v t g hf hv.out ht.out hg.out
    rw [hh.out] at h
    exact h
  clear hg
  go_enter Try.func11, Try.ntmps11
  go_wp2_with (first
    | (go_at_call 22; refine (together_at a b 0 v t ha hb (by omega) hv ht _).mono ?_; rintro e w' ⟨rfl, rfl⟩)
    | (go_at_call 23; (with_reducible refine (high_at v h v1 hh _).mono ?_); rintro e w' ⟨rfl, rfl⟩))
  go_ret2
  refine ⟨ret_wide rfl ?_, rfl⟩
  rw [← HG.out]
  simp (disch := (focus repeat' (first | assumption | omega | exact Int.natCast_nonneg _ | with_reducible apply or8i | with_reducible apply xor8i | with_reducible apply or8 | with_reducible apply xor8 | ((with_reducible apply and8i'); omega) | ((with_reducible apply and8'); omega) | with_reducible apply and8i | with_reducible apply and8))) only [u8_and, Int.reduceToNat, Int.toNat_natCast]
  simp (disch := (focus repeat' (first | assumption | omega | exact Int.natCast_nonneg _ | with_reducible apply or8i | with_reducible apply xor8i | with_reducible apply or8 | with_reducible apply xor8 | ((with_reducible apply and8i'); omega) | ((with_reducible apply and8'); omega) | with_reducible apply and8i | with_reducible apply and8))) only [u8_or, Int.toNat_natCast]

theorem not16 (b : Nat) (h : b < 65536) : bits .xor .u16 IntKind.u16.max (b : Int) = ((65535 - b : Nat) : Int) := by
  show bits .xor .u16 65535 (b : Int) = _
  rw [u16_xor _ _ (by omega) (by omega) (by omega) (by omega), Int.toNat_natCast]
  refine congrArg _ ?_
  show 65535 ^^^ b = 65535 - b
  have e : b = 65535 - (65535 - b) := by omega
  have h1 : (65535 ^^^ b) = (BitVec.allOnes 16 ^^^ BitVec.ofNat 16 b).toNat := by
    rw [BitVec.toNat_xor, BitVec.toNat_allOnes, BitVec.toNat_ofNat, Nat.mod_eq_of_lt h]
  rw [h1, BitVec.allOnes_xor, BitVec.toNat_not, BitVec.toNat_ofNat, Nat.mod_eq_of_lt h]

set_option maxHeartbeats 800000 in
theorem sbc_at (a b f c v g : Nat) (ha : a < 65536) (hb : b < 65536) (hf : f < 256) (hc : Hid (f % 2 = c)) (hv : Hid (wSubV a b c = v)) (hg : Hid (wSbcF a b c = g)) (w : World) :
    Calls Try.prog 9 #[.int .u16 (a : Int), .int .u16 (b : Int), .int .u8 (f : Int)] w fun e w' => e = .returned (.tuple #[.int .u16 (v : Int), .int .u8 (g : Int)]) ∧ w = w' := by
  have c1 : c ≤ 1 := by have := hc.out; omega
  have hs := wsub_by_add a b c ha hb c1
  rw [hv.out, hg.out] at hs
  obtain ⟨k, hk⟩ : ∃ k, wAdcF a (65535 - b) (1 - c) = k := ⟨_, rfl⟩
  have k1 : k < 256 := by rw [← hk]; exact wAdcF_lt _ _ _
  have HG : Hid ((k ^^^ 17) ||| 2 = g) := by have h := hs.2; rw [hk] at h; exact h
  obtain ⟨n, hn⟩ : ∃ n, 65535 - b = n := ⟨_, rfl⟩
  have n1 : n < 65536 := by omega
  have e1 := not16 b hb
  rw [hn] at e1 hs hk
  obtain ⟨f', hf'⟩ : ∃ f', f ^^^ 1 = f' := ⟨_, rfl⟩
  have f1 : f' < 256 := by rw [← hf']; exact xor8 hf (by omega)
  have e2 : bits .xor .u8 (f : Int) 1 = (f' : Int) := by
    rw [u8_xor f 1 (by omega) (by omega) (by omega) (by omega), ← hf']; rfl
  have hc' : Hid (f' % 2 = 1 - c) := by
    have h := xor_bit 0 f 1
    simp only [Nat.pow_zero, Nat.div_one] at h
    rw [hf'] at h
    have := hc.out
    show f' % 2 = 1 - c
    omega
  have HV := Lib.hid hs.1
  have HK := Lib.hid hk
  clear hs hk hn hf' hv hg c1 hc
  go_enter Try.func9, Try.ntmps9
  go_wp2_with (go_at_call 8; (with_reducible refine (adc_at a n f' (1 - c) v k ha n1 f1 hc' HV HK _).mono ?_); rintro e w' ⟨rfl, rfl⟩)
  go_ret2
  refine ⟨ret_wide rfl ?_, rfl⟩
  rw [← HG.out]
  simp (disch := (focus repeat' (first | assumption | omega | exact Int.natCast_nonneg _ | with_reducible apply or8i | with_reducible apply xor8i | with_reducible apply or8 | with_reducible apply xor8 | ((with_reducible apply and8i'); omega) | ((with_reducible apply and8'); omega) | with_reducible apply and8i | with_reducible apply and8))) only [u8_xor, u8_or, Int.reduceToNat, Int.toNat_natCast]

theorem join_at (h l v : Nat) (hh : h < 256) (hl : l < 256) (hv : Hid (h * 256 + l = v)) (w : World) :
    Calls Try.prog 16 #[.int .u8 (h : Int), .int .u8 (l : Int)] w fun e w' => e = .returned (.int .u16 (v : Int)) ∧ w = w' := by
  have e : bits .or .u16 ((h : Int) * 256) (l : Int) = (v : Int) := by
    rw [show ((h : Int) * 256) = ((h * 256 : Nat) : Int) by omega, u16_or_nat _ _ (by omega) (by omega), nat_join 8 _ _ (by omega) (by omega), hv.out]
  go_enter Try.func16, Try.ntmps16
  go_wp2
  go_ret
  exact ⟨rfl, rfl⟩

theorem move_at (v b r : Nat) (_hv : v < 65536) (hb : b < 256) (hr : Hid (wMove v b = r)) (w : World) :
    Calls Try.prog 18 #[.int .u16 (v : Int), .int .u8 (b : Int)] w fun e w' => e = .returned (.int .u16 (r : Int)) ∧ w = w' := by
  by_cases h : (128 : Int) ≤ (b : Int)
  · have e : (v + (b + 65280)) % 65536 = r := by
      have h2 := hr.out
      unfold wMove at h2
      rw [show Nat.ble 128 b = true from ble_t (by omega)] at h2
      exact h2
    go_enter Try.func18, Try.ntmps18
    go_wp2
    go_ret
    refine ⟨ret_word ?_, rfl⟩
    have e8 : IntKind.i8.wrap (b : Int) = (b : Int) - 256 := by
      simp [IntKind.wrap, IntKind.bits, IntKind.signed]
      omega
    rw [e8, IntKind.wrap_u16, IntKind.wrap_u16]
    omega
  · have e : (v + b) % 65536 = r := by
      have h2 := hr.out
      unfold wMove at h2
      rw [show Nat.ble 128 b = false from ble_f (by omega)] at h2
      exact h2
    go_enter Try.func18, Try.ntmps18
    go_wp2
    go_ret
    refine ⟨ret_word ?_, rfl⟩
    rw [IntKind.wrap_u16]
    omega

end Go.Proofs.Ytogohngbafnokaa
