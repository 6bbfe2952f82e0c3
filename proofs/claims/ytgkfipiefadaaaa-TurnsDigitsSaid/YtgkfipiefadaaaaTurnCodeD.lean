/-
  Package turns' Digits, by one contract.
-/
import Derived.Test.YtgkfipiefadaaaaTurnCode
import Derived.OwnWalk
namespace Go.Proofs.Ytgkfipiefadaaaa
open Go.RowKit

theorem dig_said (r f s g : Nat) (hf : f < 256) (hs : nBitsF r false = s) (hg : tSaid r (nBit 1 f) = g) : s ||| (f &&& 1) = g := by
  rw [one_bit f hf, ← hg]
  cases h : nBit 1 f
  · exact said_bits r 0 s (by omega) hs
  · exact said_bits r 1 s (by omega) hs

theorem digits_at (left : Bool) (a m f r q g : Nat) (ha : a < 256) (hm : m < 256) (hf : f < 256) (hr : Hid (tDigA left a m = r)) (hq : Hid (tDigM left a m = q)) (hg : Hid (tDigF left a m f = g)) (w : World) :
    Calls Try.prog 10 #[.bool left, .int .u8 (a : Int), .int .u8 (m : Int), .int .u8 (f : Int)] w fun e w' => e = .returned (.tuple #[.int .u8 (r : Int), .int .u8 (q : Int), .int .u8 (g : Int)]) ∧ w = w' := by
  have r1 : r < 256 := by rw [← hr.out]; exact tDigA_lt left a m ha hm
  obtain ⟨s, hs⟩ : ∃ s, Hid (nBitsF r false = s) := ⟨_, rfl⟩
  have s1 : s < 256 := by rw [← hs.out]; exact nBitsF_lt _ _
  have HG : Hid (s ||| (f &&& 1) = g) := by
    show _ = _
    refine dig_said r f s g hf hs.out ?_
    rw [← hg.out, ← hr.out]; rfl
  obtain ⟨u, hu⟩ : ∃ u, a / 16 * 16 = u := ⟨_, rfl⟩
  obtain ⟨p, hp⟩ : ∃ p, a % 16 = p := ⟨_, rfl⟩
  obtain ⟨l, hl⟩ : ∃ l, m % 16 = l := ⟨_, rfl⟩
  obtain ⟨h, hh⟩ : ∃ h, m / 16 = h := ⟨_, rfl⟩
  have e1 : bits .andNot .u8 (a : Int) 15 = (u : Int) := by
    rw [u8_andNot _ _ (by omega) (by omega) (by omega) (by omega), ← hu, ← upper_bits a ha]; rfl
  have e2 : bits .and .u8 (m : Int) 15 = (l : Int) := by
    rw [u8_and _ _ (by omega) (by omega) (by omega) (by omega), ← hl, ← low_bits m hm]; rfl
  have e3 : bits .and .u8 (a : Int) 15 = (p : Int) := by
    rw [u8_and _ _ (by omega) (by omega) (by omega) (by omega), ← hp, ← low_bits a ha]; rfl
  have e4 : (m : Int) / 16 = (h : Int) := by omega
  have e5 : (a : Int) * 16 % 256 = ((p * 16 : Nat) : Int) := by omega
  have e6 : (l : Int) * 16 = ((l * 16 : Nat) : Int) := by omega
  have x1 : u ||| h = u + h := by
    have := two_digits (a / 16) h (by omega) (by omega)
    rw [hu] at this; exact this
  have x2 : u ||| l = u + l := by
    have := two_digits (a / 16) l (by omega) (by omega)
    rw [hu] at this; exact this
  have e7 : bits .or .u8 (u : Int) (h : Int) = ((u + h : Nat) : Int) := by rw [u8_or_nat u h (by omega) (by omega), x1]
  have e8 : bits .or .u8 (u : Int) (l : Int) = ((u + l : Nat) : Int) := by rw [u8_or_nat u l (by omega) (by omega), x2]
  have e9 : bits .or .u8 ((l : Int) * 16) (p : Int) = ((l * 16 + p : Nat) : Int) := by rw [e6, u8_or_nat _ p (by omega) (by omega), two_digits l p (by omega) (by omega)]
  have e10 : bits .or .u8 ((a : Int) * 16 % 256) (h : Int) = ((p * 16 + h : Nat) : Int) := by rw [e5, u8_or_nat _ h (by omega) (by omega), two_digits p h (by omega) (by omega)]
  have l1 : (l : Int) < 16 := by omega
  cases left
  · have hr2 : ((u + l : Nat) : Int) = (r : Int) := by rw [← hr.out, ← hu, ← hl]; rfl
    have hq2 : ((p * 16 + h : Nat) : Int) = (q : Int) := by rw [← hq.out, ← hp, ← hh]; rfl
    rw [hr2] at e8
    rw [hq2] at e10
    clear hr hq hg e5 e6 e7 e9 x1 x2 hu hp hl hh hr2 hq2
    go_enter Try.func10, Try.ntmps10
    go_wp2_with (go_at_call 20; (with_reducible refine (tshape_at r s r1 hs _).mono ?_); rintro e w' ⟨rfl, rfl⟩)
    go_ret3
    refine ⟨ret_three rfl rfl ?_, rfl⟩
    rw [← HG.out]
    simp (disch := (focus repeat' (first | assumption | omega | exact Int.natCast_nonneg _ | with_reducible apply or8i | with_reducible apply xor8i | with_reducible apply or8 | with_reducible apply xor8 | ((with_reducible apply and8i'); omega) | ((with_reducible apply and8'); omega) | with_reducible apply and8i | with_reducible apply and8))) only [u8_and, u8_or, Int.reduceToNat, Int.toNat_natCast]
  · have hr2 : ((u + h : Nat) : Int) = (r : Int) := by rw [← hr.out, ← hu, ← hh]; rfl
    have hq2 : ((l * 16 + p : Nat) : Int) = (q : Int) := by rw [← hq.out, ← hp, ← hl]; rfl
    rw [hr2] at e7
    rw [hq2] at e9
    clear hr hq hg e5 e6 e8 e10 x1 x2 hu hp hl hh hr2 hq2
    go_enter Try.func10, Try.ntmps10
    go_wp2_with (go_at_call 20; (with_reducible refine (tshape_at r s r1 hs _).mono ?_); rintro e w' ⟨rfl, rfl⟩)
    go_ret3
    refine ⟨ret_three rfl rfl ?_, rfl⟩
    rw [← HG.out]
    simp (disch := (focus repeat' (first | assumption | omega | exact Int.natCast_nonneg _ | with_reducible apply or8i | with_reducible apply xor8i | with_reducible apply or8 | with_reducible apply xor8 | ((with_reducible apply and8i'); omega) | ((with_reducible apply and8'); omega) | with_reducible apply and8i | with_reducible apply and8))) only [u8_and, u8_or, Int.reduceToNat, Int.toNat_natCast]

end Go.Proofs.Ytgkfipiefadaaaa
