/-
  Package turns' functions, each by one contract.
-/
import Derived.Test.YtgkfipiefadaaaaTurnSpec
import Derived.Test.YtgkfipiefadaaaaXBits
import Derived.Test.YtgkfipiefadaaaaSumCodeS
namespace Go.Proofs.Ytgkfipiefadaaaa
open Go.RowKit

theorem ret_three {a b c : Int} {v m f : Nat} (h : a = (v : Int)) (h' : b = (m : Int)) (h'' : c = (f : Int)) : (Ending.returned (.tuple #[.int .u8 a, .int .u8 b, .int .u8 c]) : Ending) = .returned (.tuple #[.int .u8 (v : Int), .int .u8 (m : Int), .int .u8 (f : Int)]) := by rw [h, h', h'']
theorem and_one (f c : Nat) (hf : f < 256) (hc : f % 2 = c) : bits .and .u8 (f : Int) 1 = (c : Int) := by
  rw [u8_and f 1 (by omega) (by omega) (by omega) (by omega), ← hc, ← Nat.and_one_is_mod]; rfl

theorem up_at (v i r o : Nat) (hv : v < 256) (hi : i ≤ 1) (hr : Hid (tUp v i = r)) (ho : Hid (v / 128 = o)) (w : World) :
    Calls Try.prog 32 #[.int .u8 (v : Int), .int .u8 (i : Int)] w fun e w' => e = .returned (.tuple #[.int .u8 (r : Int), .int .u8 (o : Int)]) ∧ w = w' := by
  go_enter Try.func32, Try.ntmps32
  go_wp2
  go_ret2
  refine ⟨ret_pair ?_ ?_, rfl⟩
  · rw [← hr.out, ← up_bits v i hv hi, show ((v : Int) * 2 % 256) = ((v * 2 % 256 : Nat) : Int) by omega, u8_or_nat _ _ (by omega) (by omega)]
  · have := ho.out; omega
theorem down_at (v i r o : Nat) (hv : v < 256) (hi : i ≤ 1) (hr : Hid (tDn v i = r)) (ho : Hid (v % 2 = o)) (w : World) :
    Calls Try.prog 33 #[.int .u8 (v : Int), .int .u8 (i : Int)] w fun e w' => e = .returned (.tuple #[.int .u8 (r : Int), .int .u8 (o : Int)]) ∧ w = w' := by
  go_enter Try.func33, Try.ntmps33
  go_wp2
  go_ret2
  refine ⟨ret_pair ?_ (and_one v o hv ho.out), rfl⟩
  rw [← hr.out, ← dn_bits v i hv hi, show ((i : Int) * 128) = ((i * 128 : Nat) : Int) by omega, show ((v : Int) / 2) = ((v / 2 : Nat) : Int) by omega, u8_or_nat _ _ (by omega) (by omega)]
theorem up_zero (v r o : Nat) (hv : v < 256) (hr : Hid (tUp v 0 = r)) (ho : Hid (v / 128 = o)) (w : World) :
    Calls Try.prog 32 #[.int .u8 (v : Int), .int .u8 0] w fun e w' => e = .returned (.tuple #[.int .u8 (r : Int), .int .u8 (o : Int)]) ∧ w = w' := up_at v 0 r o hv (by omega) hr ho w
theorem up_one (v r o : Nat) (hv : v < 256) (hr : Hid (tUp v 1 = r)) (ho : Hid (v / 128 = o)) (w : World) :
    Calls Try.prog 32 #[.int .u8 (v : Int), .int .u8 1] w fun e w' => e = .returned (.tuple #[.int .u8 (r : Int), .int .u8 (o : Int)]) ∧ w = w' := up_at v 1 r o hv (by omega) hr ho w
theorem down_zero (v r o : Nat) (hv : v < 256) (hr : Hid (tDn v 0 = r)) (ho : Hid (v % 2 = o)) (w : World) :
    Calls Try.prog 33 #[.int .u8 (v : Int), .int .u8 0] w fun e w' => e = .returned (.tuple #[.int .u8 (r : Int), .int .u8 (o : Int)]) ∧ w = w' := down_at v 0 r o hv (by omega) hr ho w

theorem turn_at (k v c r o : Nat) (hk : k < 8) (hv : v < 256) (hc : c ≤ 1) (hr : Hid (tV k v c = r)) (ho : Hid (tO k v = o)) (w : World) :
    Calls Try.prog 23 #[.int .i64 (k : Int), .int .u8 (v : Int), .int .u8 (c : Int)] w fun e w' => e = .returned (.tuple #[.int .u8 (r : Int), .int .u8 (o : Int)]) ∧ w = w' := by
  obtain ⟨t, ht⟩ : ∃ t, v / 128 = t := ⟨_, rfl⟩
  obtain ⟨b, hb⟩ : ∃ b, v % 2 = b := ⟨_, rfl⟩
  have e1 : (v : Int) / 128 = (t : Int) := by omega
  have e2 := and_one v b hv hb
  have t1 : t ≤ 1 := by omega
  have b1 : b ≤ 1 := by omega
  have HT := Lib.hid ht
  have HB := Lib.hid hb
  have hc8 : k = 0 ∨ k = 1 ∨ k = 2 ∨ k = 3 ∨ k = 4 ∨ k = 5 ∨ k = 6 ∨ k = 7 := by omega
  clear hk ht hb
  rcases hc8 with rfl | rfl | rfl | rfl | rfl | rfl | rfl | rfl
  · have h1 : Hid (tUp v t = r) := by show _ = _; rw [← HT.out]; exact hr.out
    have h2 : Hid (v / 128 = o) := ho
    clear hr ho
    go_enter Try.func23, Try.ntmps23
    go_wp2_with (go_at_call 32; (with_reducible refine (up_at v t r o hv t1 h1 h2 _).mono ?_); rintro e w' ⟨rfl, rfl⟩)
    go_ret2
    exact ⟨rfl, rfl⟩
  · have h1 : Hid (tDn v b = r) := by show _ = _; rw [← HB.out]; exact hr.out
    have h2 : Hid (v % 2 = o) := ho
    clear hr ho
    go_enter Try.func23, Try.ntmps23
    go_wp2_with (go_at_call 33; (with_reducible refine (down_at v b r o hv b1 h1 h2 _).mono ?_); rintro e w' ⟨rfl, rfl⟩)
    go_ret2
    exact ⟨rfl, rfl⟩
  · have h1 : Hid (tUp v c = r) := hr
    have h2 : Hid (v / 128 = o) := ho
    clear hr ho
    go_enter Try.func23, Try.ntmps23
    go_wp2_with (go_at_call 32; (with_reducible refine (up_at v c r o hv hc h1 h2 _).mono ?_); rintro e w' ⟨rfl, rfl⟩)
    go_ret2
    exact ⟨rfl, rfl⟩
  · have h1 : Hid (tDn v c = r) := hr
    have h2 : Hid (v % 2 = o) := ho
    clear hr ho
    go_enter Try.func23, Try.ntmps23
    go_wp2_with (go_at_call 33; (with_reducible refine (down_at v c r o hv hc h1 h2 _).mono ?_); rintro e w' ⟨rfl, rfl⟩)
    go_ret2
    exact ⟨rfl, rfl⟩
  · have h1 : Hid (tUp v 0 = r) := hr
    have h2 : Hid (v / 128 = o) := ho
    clear hr ho
    go_enter Try.func23, Try.ntmps23
    go_wp2_with (go_at_call 32; (with_reducible refine (up_zero v r o hv h1 h2 _).mono ?_); rintro e w' ⟨rfl, rfl⟩)
    go_ret2
    exact ⟨rfl, rfl⟩
  · have h1 : Hid (tDn v t = r) := by show _ = _; rw [← HT.out]; exact hr.out
    have h2 : Hid (v % 2 = o) := ho
    clear hr ho
    go_enter Try.func23, Try.ntmps23
    go_wp2_with (go_at_call 33; (with_reducible refine (down_at v t r o hv t1 h1 h2 _).mono ?_); rintro e w' ⟨rfl, rfl⟩)
    go_ret2
    exact ⟨rfl, rfl⟩
  · have h1 : Hid (tUp v 1 = r) := hr
    have h2 : Hid (v / 128 = o) := ho
    clear hr ho
    go_enter Try.func23, Try.ntmps23
    go_wp2_with (go_at_call 32; (with_reducible refine (up_one v r o hv h1 h2 _).mono ?_); rintro e w' ⟨rfl, rfl⟩)
    go_ret2
    exact ⟨rfl, rfl⟩
  · have h1 : Hid (tDn v 0 = r) := hr
    have h2 : Hid (v % 2 = o) := ho
    clear hr ho
    go_enter Try.func23, Try.ntmps23
    go_wp2_with (go_at_call 33; (with_reducible refine (down_zero v r o hv h1 h2 _).mono ?_); rintro e w' ⟨rfl, rfl⟩)
    go_ret2
    exact ⟨rfl, rfl⟩

theorem mask_at (n : Int) (k m : Nat) (hk : n % 8 = (k : Int)) (hm : Hid (2 ^ k = m)) (w : World) :
    Calls Try.prog 21 #[.int .i64 n] w fun e w' => e = .returned (.int .u8 (m : Int)) ∧ w = w' := by
  have h7 := i64_and7 n
  rw [hk] at h7
  have hc : k = 0 ∨ k = 1 ∨ k = 2 ∨ k = 3 ∨ k = 4 ∨ k = 5 ∨ k = 6 ∨ k = 7 := by omega
  clear hk
  rcases hc with rfl | rfl | rfl | rfl | rfl | rfl | rfl | rfl
  all_goals
    obtain rfl : m = _ := hm.out.symm
    go_enter Try.func21, Try.ntmps21
    go_wp2
    go_ret
    exact ⟨rfl, rfl⟩

theorem twhen_any (on : Bool) (n : Nat) (w : World) : Calls Try.prog 22 #[.bool on, .int .u8 (n : Int)] w fun e w' => e = .returned (.int .u8 ((cond on n 0 : Nat) : Int)) ∧ w = w' := by
  cases on
  all_goals
    go_enter Try.func22, Try.ntmps22
    go_wp2
    go_ret
    exact ⟨rfl, rfl⟩
theorem twhen_at (on : Bool) (n : Nat) (b : Bool) (r : Nat) (hb : on = b) (hr : Hid (cond b n 0 = r)) (w : World) : Calls Try.prog 22 #[.bool on, .int .u8 (n : Int)] w fun e w' => e = .returned (.int .u8 (r : Int)) ∧ w = w' := by
  rw [hb, ← hr.out]; exact twhen_any b n w

theorem tshape_at (v r : Nat) (h : v < 256) (hr : Hid (nBitsF v false = r)) (w : World) : Calls Try.prog 20 #[.int .u8 (v : Int)] w fun e w' => e = .returned (.int .u8 (r : Int)) ∧ w = w' := by
  have HS := Lib.hid (bits_bits v h)
  rw [hr.out] at HS
  obtain ⟨s, hs⟩ : ∃ s, nShape v = s := ⟨_, rfl⟩
  have s1 : s < 256 := hs ▸ nByte_lt _ _ _ _ _ _ _ _
  have HT := Lib.hid hs
  obtain ⟨b, hb⟩ : ∃ b, nPar v = b := ⟨_, rfl⟩
  have HB := Lib.hid hb
  obtain ⟨r', hr'⟩ : ∃ r, cond b 4 0 = r := ⟨_, rfl⟩
  have HR := Lib.hid hr'
  have r1 : r' < 256 := by rw [← hr']; cases b <;> decide
  rw [hs, hb, hr'] at HS
  clear hr' hb hs hr
  go_enter Try.func20, Try.ntmps20
  go_wp2_with (first
    | (go_at_call 30; refine (shape_at v s h HT _).mono ?_; rintro e w' ⟨rfl, rfl⟩)
    | (go_at_call 31; refine (parity_any v h _).mono ?_; rintro e w' ⟨rfl, rfl⟩; rw [HB.out])
    | (go_at_call 22; refine (twhen_at _ 4 b r' rfl HR _).mono ?_; rintro e w' ⟨rfl, rfl⟩))
  go_ret
  refine ⟨ret_byte ?_, rfl⟩
  rw [← HS.out]
  simp (disch := (focus repeat' (first | assumption | omega | exact Int.natCast_nonneg _ | with_reducible apply or8i | with_reducible apply xor8i | with_reducible apply or8 | with_reducible apply xor8 | ((with_reducible apply and8i'); omega) | ((with_reducible apply and8'); omega) | with_reducible apply and8i | with_reducible apply and8))) only [u8_or, Int.toNat_natCast]
  rfl

theorem rot_at (op : Int) (k v f c r g : Nat) (hk : op % 8 = (k : Int)) (hv : v < 256) (hf : f < 256) (hc : Hid (f % 2 = c)) (hr : Hid (tV k v c = r)) (hg : Hid (tRotF k v c = g)) (w : World) :
    Calls Try.prog 13 #[.int .i64 op, .int .u8 (v : Int), .int .u8 (f : Int)] w fun e w' => e = .returned (.tuple #[.int .u8 (r : Int), .int .u8 (g : Int)]) ∧ w = w' := by
  have h7 := i64_and7 op
  rw [hk] at h7
  have k1 : k < 8 := by omega
  clear hk
  have e1 := and_one f c hf hc.out
  have c1 : c ≤ 1 := by have := hc.out; omega
  have r1 : r < 256 := by rw [← hr.out]; exact tV_lt k v c hv c1
  obtain ⟨o, ho⟩ : ∃ o, Hid (tO k v = o) := ⟨_, rfl⟩
  have o1 : o ≤ 1 := by rw [← ho.out]; exact tO_le k v hv
  obtain ⟨s, hs⟩ : ∃ s, Hid (nBitsF r false = s) := ⟨_, rfl⟩
  have s1 : s < 256 := by rw [← hs.out]; exact nBitsF_lt _ _
  have HG : Hid (s ||| o = g) := by
    show _ = _
    rw [said_bits r o s o1 hs.out, ← hg.out]
    unfold tRotF
    rw [hr.out, ho.out]
  clear hg
  go_enter Try.func13, Try.ntmps13
  go_wp2_with (first
    | (go_at_call 23; (with_reducible refine (turn_at k v c r o k1 hv c1 hr ho _).mono ?_); rintro e w' ⟨rfl, rfl⟩)
    | (go_at_call 20; (with_reducible refine (tshape_at r s r1 hs _).mono ?_); rintro e w' ⟨rfl, rfl⟩))
  go_ret2
  refine ⟨ret_pair rfl ?_, rfl⟩
  rw [← HG.out]
  exact u8_or_nat s o s1 (by omega)

theorem i64_and3 (x : Int) : bits .and .i64 x 3 = x % 4 := by
  have e : (BitVec.ofInt 64 x &&& BitVec.ofInt 64 3).toNat = (x % 4).toNat := by
    rw [BitVec.toNat_and, BitVec.toNat_ofInt, BitVec.toNat_ofInt]
    rw [show ((3 : Int) % ((2 ^ 64 : Nat) : Int)).toNat = 2 ^ 2 - 1 by decide, Nat.and_two_pow_sub_one_eq_mod]
    omega
  show IntKind.i64.wrap ((BitVec.ofInt 64 x &&& BitVec.ofInt 64 3).toNat : Int) = _
  rw [e]
  rw [IntWalk.i64_in _ (by omega)]
  omega

theorem quick_at (op : Int) (k v f c r g : Nat) (hk : op % 4 = (k : Int)) (hv : v < 256) (hf : f < 256) (hc : Hid (f % 2 = c)) (hr : Hid (tV k v c = r)) (hg : Hid (tQuickF k v c f = g)) (w : World) :
    Calls Try.prog 9 #[.int .i64 op, .int .u8 (v : Int), .int .u8 (f : Int)] w fun e w' => e = .returned (.tuple #[.int .u8 (r : Int), .int .u8 (g : Int)]) ∧ w = w' := by
  have h3 := i64_and3 op
  rw [hk] at h3
  have k1 : (k : Int) % 8 = (k : Int) := by omega
  clear hk
  have c1 : c ≤ 1 := by have := hc.out; omega
  have r1 : r < 256 := by rw [← hr.out]; exact tV_lt k v c hv c1
  obtain ⟨t, ht⟩ : ∃ t, Hid (tRotF k v c = t) := ⟨_, rfl⟩
  have t1 : t < 256 := by rw [← ht.out]; exact tRotF_lt _ _ _
  have HG : Hid (((f &&& 196) ||| (r &&& 40)) ||| (t &&& 1) = g) := by
    show _ = _
    rw [rot_one k v c t hv ht.out]
    exact quick_bits k v c f r _ g hv hf c1 hr.out rfl hg.out
  have HK := Lib.hid k1
  clear hg k1
  go_enter Try.func9, Try.ntmps9
  go_wp2_with (go_at_call 13; (with_reducible refine (rot_at (k : Int) k v f c r t HK.out hv hf hc hr ht _).mono ?_); rintro e w' ⟨rfl, rfl⟩)
  go_ret2
  refine ⟨ret_pair rfl ?_, rfl⟩
  rw [← HG.out]
  simp (disch := (focus repeat' (first | assumption | omega | exact Int.natCast_nonneg _ | with_reducible apply or8i | with_reducible apply xor8i | with_reducible apply or8 | with_reducible apply xor8 | ((with_reducible apply and8i'); omega) | ((with_reducible apply and8'); omega) | with_reducible apply and8i | with_reducible apply and8))) only [u8_and, Int.reduceToNat, Int.toNat_natCast]
  simp (disch := (focus repeat' (first | assumption | omega | exact Int.natCast_nonneg _ | with_reducible apply or8i | with_reducible apply xor8i | with_reducible apply or8 | with_reducible apply xor8 | ((with_reducible apply and8i'); omega) | ((with_reducible apply and8'); omega) | with_reducible apply and8i | with_reducible apply and8))) only [u8_or, Int.toNat_natCast]

theorem pow_lt8 (k m : Nat) (hk : k < 8) (hm : 2 ^ k = m) : m < 256 := by
  have hc : k = 0 ∨ k = 1 ∨ k = 2 ∨ k = 3 ∨ k = 4 ∨ k = 5 ∨ k = 6 ∨ k = 7 := by omega
  rcases hc with rfl | rfl | rfl | rfl | rfl | rfl | rfl | rfl <;> omega
theorem bit_at (n : Int) (k v f b g : Nat) (hk : n % 8 = (k : Int)) (hv : v < 256) (hf : f < 256) (hb : b < 256) (hg : Hid (tBitF k v f b = g)) (w : World) :
    Calls Try.prog 12 #[.int .i64 n, .int .u8 (v : Int), .int .u8 (f : Int), .int .u8 (b : Int)] w fun e w' => e = .returned (.int .u8 (g : Int)) ∧ w = w' := by
  have k1 : k < 8 := by omega
  obtain ⟨m, hm⟩ : ∃ m : Nat, Hid (2 ^ k = m) := ⟨_, rfl⟩
  have m1 := pow_lt8 k m k1 hm.out
  obtain ⟨x, hx⟩ : ∃ x, v &&& m = x := ⟨_, rfl⟩
  have x1 : x < 256 := hx ▸ and8 hv
  have e1 : bits .and .u8 (v : Int) (m : Int) = (x : Int) := by rw [u8_and_nat v m hv m1, hx]
  obtain ⟨z, hz⟩ : ∃ z : Nat, Hid (cond (Nat.beq x 0) 68 0 = z) := ⟨_, rfl⟩
  have z1 : z < 256 := by rw [← hz.out]; cases Nat.beq x 0 <;> decide
  have HG : Hid (((((x &&& 128) ||| z) ||| 16) ||| (f &&& 1)) ||| (b &&& 40) = g) :=
    bit_bits k v f b x g z k1 hv hf hb (by rw [hm.out, hx]) hz.out hg.out
  have HK := Lib.hid hk
  clear hg hk hx
  go_enter Try.func12, Try.ntmps12
  go_wp2_with (first
    | (go_at_call 21; (with_reducible refine (mask_at n k m HK.out hm _).mono ?_); rintro e w' ⟨rfl, rfl⟩)
    | (go_at_call 22; refine (twhen_at _ 68 (Nat.beq x 0) z (by rw [Bool.eq_iff_iff, beq_iff_eq, Nat.beq_eq]; omega) hz _).mono ?_; rintro e w' ⟨rfl, rfl⟩))
  go_ret
  refine ⟨ret_byte ?_, rfl⟩
  rw [← HG.out]
  simp (disch := (focus repeat' (first | assumption | omega | exact Int.natCast_nonneg _ | with_reducible apply or8i | with_reducible apply xor8i | with_reducible apply or8 | with_reducible apply xor8 | ((with_reducible apply and8i'); omega) | ((with_reducible apply and8'); omega) | with_reducible apply and8i | with_reducible apply and8))) only [u8_and, u8_or, Int.reduceToNat, Int.toNat_natCast]
  try rfl

theorem put_at (n : Int) (k v r : Nat) (on : Bool) (hk : n % 8 = (k : Int)) (hv : v < 256) (hr : Hid (tPut k v on = r)) (w : World) :
    Calls Try.prog 17 #[.int .i64 n, .int .u8 (v : Int), .bool on] w fun e w' => e = .returned (.int .u8 (r : Int)) ∧ w = w' := by
  have k1 : k < 8 := by omega
  obtain ⟨m, hm⟩ : ∃ m : Nat, Hid (2 ^ k = m) := ⟨_, rfl⟩
  have m1 := pow_lt8 k m k1 hm.out
  obtain ⟨z, hz⟩ : ∃ z : Nat, Hid (cond on m 0 = z) := ⟨_, rfl⟩
  have z1 : z < 256 := by rw [← hz.out]; cases on <;> simp <;> omega
  have HR : Hid ((v &&& (255 - m)) ||| z = r) := by
    show _ = _
    rw [← hz.out, put_bits k v on m k1 hv hm.out, hr.out]
  have HK := Lib.hid hk
  clear hr hk
  go_enter Try.func17, Try.ntmps17
  go_wp2_with (first
    | (go_at_call 21; (with_reducible refine (mask_at n k m HK.out hm _).mono ?_); rintro e w' ⟨rfl, rfl⟩)
    | (go_at_call 22; (with_reducible refine (twhen_at on m on z rfl hz _).mono ?_); rintro e w' ⟨rfl, rfl⟩))
  go_ret
  refine ⟨ret_byte ?_, rfl⟩
  rw [← HR.out]
  simp (disch := (focus repeat' (first | assumption | omega | exact Int.natCast_nonneg _ | with_reducible apply or8i | with_reducible apply xor8i | with_reducible apply or8 | with_reducible apply xor8 | ((with_reducible apply and8i'); omega) | ((with_reducible apply and8'); omega) | with_reducible apply and8i | with_reducible apply and8))) only [u8_andNot, Int.toNat_natCast]
  exact u8_or_nat _ z (and8 hv) z1

end Go.Proofs.Ytgkfipiefadaaaa
