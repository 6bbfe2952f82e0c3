/-
  The law SumsTell returns true for any two bytes, and writes nothing.
-/
import Derived.Test.YthjjdpelddboeaaSumNames
import Derived.Test.YthjjdpelddboeaaSumChkT
namespace Go.Proofs.Ythjjdpelddboeaa
open Go.RowKit

set_option maxRecDepth 100000 in
set_option maxHeartbeats 1600000 in
theorem tell_any (a b : Nat) (ha : a < 256) (hb : b < 256) (w : World) :
    Calls Try.prog 9 #[.int .u8 (a : Int), .int .u8 (b : Int)] w fun e w' => e = .returned (.bool true) ∧ Below w.heap.size w w' := by
  obtain ⟨f, hf⟩ : ∃ f, Hid (nCmp a b = f) := ⟨_, rfl⟩
  obtain ⟨x, hx⟩ : ∃ x, Hid (a &&& b = x) := ⟨_, rfl⟩
  obtain ⟨y, hy⟩ : ∃ y, Hid (a ||| b = y) := ⟨_, rfl⟩
  obtain ⟨z, hz⟩ : ∃ z, Hid (a ^^^ b = z) := ⟨_, rfl⟩
  obtain ⟨xf, hxf⟩ : ∃ xf, Hid (nBitsF x true = xf) := ⟨_, rfl⟩
  obtain ⟨yf, hyf⟩ : ∃ yf, Hid (nBitsF y false = yf) := ⟨_, rfl⟩
  obtain ⟨g, hg⟩ : ∃ g, Hid (nBitsF z false = g) := ⟨_, rfl⟩
  obtain ⟨v, hv⟩ : ∃ v, Hid (nSubV a b 0 = v) := ⟨_, rfl⟩
  obtain ⟨h, hh⟩ : ∃ h, Hid (nSubF a b 0 = h) := ⟨_, rfl⟩
  obtain ⟨t1, t2, t3, t4, t5, t6, t7⟩ := tell_at a b f x y z g v h ha hb hf.out hx.out hy.out hz.out hg.out hv.out hh.out
  have f1 : f < 256 := by rw [← hf.out]; exact nCmp_lt _ _
  have g1 : g < 256 := by rw [← hg.out]; exact nBitsF_lt _ _
  have h1 : h < 256 := by rw [← hh.out]; exact nSubF_lt _ _ _
  have x1 : (x : Int) < 256 := by have := and8 (b := b) ha; rw [hx.out] at this; omega
  have y1 : (y : Int) < 256 := by have := or8 ha hb; rw [hy.out] at this; omega
  have z1 : (z : Int) < 256 := by have := xor8 ha hb; rw [hz.out] at this; omega
  have s4 : (x : Int) + (y : Int) = (a : Int) + (b : Int) := by omega
  have s5 : (y : Int) - (x : Int) = (z : Int) := by omega
  have s6 : bits .andNot .u8 (bits .xor .u8 (h : Int) (f : Int)) 40 = 0 := by
    rw [u8_xor_nat h f h1 f1, u8_andNot _ _ (by omega) (xor8i h1 f1) (by omega) (by omega), Int.toNat_natCast]
    show (((h ^^^ f) &&& 215 : Nat) : Int) = 0
    rw [t6]; rfl
  have HT := Lib.hid (And.intro t1 (And.intro t2 (And.intro t3 t7)))
  clear t1 t2 t3 t4 t5 t6 t7
  have b1 : bits .and .u8 (f : Int) 1 = ((f &&& 1 : Nat) : Int) := by rw [u8_and _ _ (by omega) (by omega) (by omega) (by omega), Int.toNat_natCast]; rfl
  have b2 : bits .and .u8 (f : Int) 64 = ((f &&& 64 : Nat) : Int) := by rw [u8_and _ _ (by omega) (by omega) (by omega) (by omega), Int.toNat_natCast]; rfl
  have b3 : bits .and .u8 (g : Int) 64 = ((g &&& 64 : Nat) : Int) := by rw [u8_and _ _ (by omega) (by omega) (by omega) (by omega), Int.toNat_natCast]; rfl
  rw [HT.out.1] at b1
  rw [HT.out.2.1] at b2
  rw [HT.out.2.2.1] at b3
  have hc : ((a : Int) < (b : Int)) ∨ ((a : Int) = (b : Int)) ∨ ((b : Int) < (a : Int)) := by omega
  rcases hc with hc | hc | hc
  case' inl =>
    rw [if_pos (by omega)] at b1
    rw [if_neg (by omega)] at b2 b3
    have bv : ((v : Int) == 0) = false := by (have := HT.out.2.2.2; simp; omega)
    have be : ((a : Int) == (b : Int)) = false := by (simp; omega)
  case' inr.inl =>
    rw [if_neg (by omega)] at b1
    rw [if_pos (by omega)] at b2 b3
    have bv : ((v : Int) == 0) = true := by (have := HT.out.2.2.2; simp; omega)
    obtain rfl : a = b := by omega
    clear hc
  case' inr.inr =>
    rw [if_neg (by omega)] at b1
    rw [if_neg (by omega)] at b2 b3
    have bv : ((v : Int) == 0) = false := by (have := HT.out.2.2.2; simp; omega)
    have be : ((a : Int) == (b : Int)) = false := by (simp; omega)
  all_goals
    simp only [Int.cast_ofNat_Int] at b1 b2 b3
    go_enter Try.func9, Try.ntmps9
    go_wp2_with (first
      | (go_at_call 13; refine (sumsAlive_any _).mono ?_; rintro e w' ⟨rfl, rfl⟩)
      | (go_at_call 14; refine (compare_at _ _ f ha hb hf _).mono ?_; rintro e w' ⟨rfl, rfl⟩)
      | (go_at_call 12; refine (and_at _ _ x xf ha hb hx hxf _).mono ?_; rintro e w' ⟨rfl, rfl⟩)
      | (go_at_call 27; refine (or_at _ _ y yf ha hb hy hyf _).mono ?_; rintro e w' ⟨rfl, rfl⟩)
      | (go_at_call 26; refine (xor_at _ _ z g ha hb hz hg _).mono ?_; rintro e w' ⟨rfl, rfl⟩)
      | (go_at_call 11; refine (sub_at _ _ false v h ha hb hv hh _).mono ?_; rintro e w' ⟨rfl, rfl⟩))
    go_ret
    first | exact ⟨rfl, Below.refl _ _⟩ | exact ⟨ret_truth (by simp; omega), Below.refl _ _⟩

end Go.Proofs.Ythjjdpelddboeaa
