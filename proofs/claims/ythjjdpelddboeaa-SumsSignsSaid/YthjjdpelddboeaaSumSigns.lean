/-
  The law SumsSigns returns true for any two bytes, and writes nothing.
-/
import Derived.Test.YthjjdpelddboeaaSumNames
import Derived.Test.YthjjdpelddboeaaSumChkS
namespace Go.Proofs.Ythjjdpelddboeaa
open Go.RowKit

theorem andk' (f k m : Nat) (h : f < 256) (hk : k < 256) (hm : f &&& k = m) : bits .and .u8 (f : Int) (k : Int) = (m : Int) := by
  rw [u8_and_nat f k h hk, hm]
set_option maxRecDepth 100000 in
set_option maxHeartbeats 1600000 in
theorem signs_any (a b : Nat) (ha : a < 256) (hb : b < 256) (w : World) :
    Calls Try.prog 10 #[.int .u8 (a : Int), .int .u8 (b : Int)] w fun e w' => e = .returned (.bool true) ∧ Below w.heap.size w w' := by
  obtain ⟨f, hf⟩ : ∃ f, Hid (nCmp a b = f) := ⟨_, rfl⟩
  obtain ⟨v, hv⟩ : ∃ v, Hid (nAddV a b 0 = v) := ⟨_, rfl⟩
  obtain ⟨g, hg⟩ : ∃ g, Hid (nAddF a b 0 = g) := ⟨_, rfl⟩
  obtain ⟨x, hx⟩ : ∃ x, Hid (a ^^^ b = x) := ⟨_, rfl⟩
  obtain ⟨pa, hpa⟩ : ∃ p, Hid (nPar a = p) := ⟨_, rfl⟩
  obtain ⟨pb, hpb⟩ : ∃ p, Hid (nPar b = p) := ⟨_, rfl⟩
  obtain ⟨s1, s2, s3⟩ := sign_at a b f g ha hb hf.out hg.out
  have f1 : f < 256 := by rw [← hf.out]; exact nCmp_lt _ _
  have g1 : g < 256 := by rw [← hg.out]; exact nAddF_lt _ _ _
  have x1 : x < 256 := by rw [← hx.out]; exact xor8 ha hb
  have hpx : Hid (nPar x = (pa == pb)) := by show _ = _; rw [← hx.out, s3, hpa.out, hpb.out]
  have hxx : bits .xor .u8 (a : Int) (b : Int) = (x : Int) := by rw [u8_xor_nat a b ha hb, hx.out]
  obtain ⟨p, hp⟩ : ∃ p, IntKind.i8.wrap (a : Int) = p := ⟨_, rfl⟩
  obtain ⟨q, hq⟩ : ∃ q, IntKind.i8.wrap (b : Int) = q := ⟨_, rfl⟩
  have ep : p = ((a : Int) + 128) % 256 - 128 := by rw [← hp]; simp [IntKind.wrap, IntKind.bits, IntKind.signed]; omega
  have eq : q = ((b : Int) + 128) % 256 - 128 := by rw [← hq]; simp [IntKind.wrap, IntKind.bits, IntKind.signed]; omega
  have pbd : -128 ≤ p ∧ p ≤ 127 := by omega
  have qbd : -128 ≤ q ∧ q ≤ 127 := by omega
  have e1 : ((bits .and .u8 (f : Int) 128 != 0) == (bits .and .u8 (f : Int) 4 != 0)) = !decide (p < q) := by
    have h1 : xor (nBit 128 f) (nBit 4 f) = decide (p < q) := by
      rw [s1, Bool.eq_iff_iff, Nat.ble_eq, decide_eq_true_eq]; omega
    rw [← h1]
    rcases bit128_of f f1 with ⟨x1, x2⟩ | ⟨x1, x2⟩ <;> rcases bit4_of f f1 with ⟨y1, y2⟩ | ⟨y1, y2⟩ <;>
      (have u1 := andk' f 128 _ f1 (by omega) x1; have u2 := andk' f 4 _ f1 (by omega) y1; rw [x2, y2]; simp only [Int.cast_ofNat_Int] at u1 u2; rw [u1, u2]; decide)
  have e2 : ((bits .and .u8 (g : Int) 128 != 0) == (bits .and .u8 (g : Int) 4 != 0)) = !decide (p + q < 0) := by
    have h1 : xor (nBit 128 g) (nBit 4 g) = decide (p + q < 0) := by
      rw [s2, Bool.eq_iff_iff, Nat.ble_eq, decide_eq_true_eq]; omega
    rw [← h1]
    rcases bit128_of g g1 with ⟨x1, x2⟩ | ⟨x1, x2⟩ <;> rcases bit4_of g g1 with ⟨y1, y2⟩ | ⟨y1, y2⟩ <;>
      (have u1 := andk' g 128 _ g1 (by omega) x1; have u2 := andk' g 4 _ g1 (by omega) y1; rw [x2, y2]; simp only [Int.cast_ofNat_Int] at u1 u2; rw [u1, u2]; decide)
  clear s1 s2 s3 ep eq
  go_enter Try.func10, Try.ntmps10
  go_wp2_with (first
      | (go_at_call 13; refine (sumsAlive_any _).mono ?_; rintro e w' ⟨rfl, rfl⟩)
      | (go_at_call 14; refine (compare_at a b f ha hb hf _).mono ?_; rintro e w' ⟨rfl, rfl⟩)
      | (go_at_call 16; refine (add_at a b false v g ha hb hv hg _).mono ?_; rintro e w' ⟨rfl, rfl⟩)
      | (go_at_call 19; first | ((with_reducible refine (parity_at x (pa == pb) x1 hpx _).mono ?_); rintro e w' ⟨rfl, rfl⟩) | ((with_reducible refine (parity_at a pa ha hpa _).mono ?_); rintro e w' ⟨rfl, rfl⟩) | ((with_reducible refine (parity_at b pb hb hpb _).mono ?_); rintro e w' ⟨rfl, rfl⟩)))
  all_goals
    go_ret
    exact ⟨rfl, Below.refl _ _⟩

end Go.Proofs.Ythjjdpelddboeaa
