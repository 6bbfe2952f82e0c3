/-
  The law SumsBack returns true for any two bytes and any carry, and writes nothing.
-/
import Derived.Test.YthjjdpelddboeaaSumNames
import Derived.Test.YthjjdpelddboeaaSumCode3
namespace Go.Proofs.Ythjjdpelddboeaa
open Go.RowKit

theorem add_swap (a b k : Nat) : nAddV b a k = nAddV a b k ∧ nAddF b a k = nAddF a b k := by
  have e : nAddV b a k = nAddV a b k := by show (b + a + k) % 256 = (a + b + k) % 256; omega
  refine ⟨e, ?_⟩
  unfold nAddF
  rw [e]
  unfold nAddFof
  rw [show Nat.add (Nat.add (Nat.mod b 16) (Nat.mod a 16)) k = Nat.add (Nat.add (Nat.mod a 16) (Nat.mod b 16)) k by show b % 16 + a % 16 + k = a % 16 + b % 16 + k; omega,
    show Nat.add (Nat.add (nHalf b) (nHalf a)) k = Nat.add (Nat.add (nHalf a) (nHalf b)) k by show nHalf b + nHalf a + k = nHalf a + nHalf b + k; omega,
    show Nat.add (Nat.add b a) k = Nat.add (Nat.add a b) k by show b + a + k = a + b + k; omega]
theorem add_sub (a b k v : Nat) (ha : a < 256) (hb : b < 256) (hk : k ≤ 1) (hv : nAddV a b k = v) : nSubV v b k = a := by
  rw [← hv]
  show ((a + b + k) % 256 + 512 - (b + k)) % 256 = a
  omega
theorem inc_dec (a s : Nat) (ha : a < 256) (hs : nAddV a 1 0 = s) : nSubV s 1 0 = a := add_sub a 1 0 s ha (by omega) (by omega) hs
theorem not_not8 (a u : Nat) (ha : a < 256) (hu : flipV 0 a = u) : flipV 0 u = a := by
  rw [← hu]
  show 255 - (255 - a) = a
  omega

set_option maxHeartbeats 1600000 in
theorem back_any (a b : Nat) (k : Bool) (ha : a < 256) (hb : b < 256) (w : World) :
    Calls Try.prog 7 #[.int .u8 (a : Int), .int .u8 (b : Int), .bool k] w fun e w' => e = .returned (.bool true) ∧ Below w.heap.size w w' := by
  obtain ⟨v, hv⟩ : ∃ v, Hid (nAddV a b k.toNat = v) := ⟨_, rfl⟩
  obtain ⟨f, hf⟩ : ∃ f, Hid (nAddF a b k.toNat = f) := ⟨_, rfl⟩
  have v1 : v < 256 := by rw [← hv.out]; exact nAddV_lt _ _ _
  have f1 : f < 256 := by rw [← hf.out]; exact nAddF_lt _ _ _
  have hv2 : Hid (nAddV b a k.toNat = v) := (add_swap a b k.toNat).1.trans hv.out
  have hf2 : Hid (nAddF b a k.toNat = f) := (add_swap a b k.toNat).2.trans hf.out
  have hr : Hid (nSubV v b k.toNat = a) := add_sub a b k.toNat v ha hb (toNat_le k) hv.out
  obtain ⟨g, hg⟩ : ∃ g, Hid (nSubF v b k.toNat = g) := ⟨_, rfl⟩
  obtain ⟨s, hs⟩ : ∃ s, Hid (nAddV a 1 0 = s) := ⟨_, rfl⟩
  have s1 : s < 256 := by rw [← hs.out]; exact nAddV_lt _ _ _
  obtain ⟨h, hh⟩ : ∃ h, Hid (nKeep (nAddF a 1 0) f = h) := ⟨_, rfl⟩
  have ht : Hid (nSubV s 1 0 = a) := inc_dec a s ha hs.out
  obtain ⟨i, hi⟩ : ∃ i, Hid (nKeep (nSubF s 1 0) f = i) := ⟨_, rfl⟩
  obtain ⟨u, hu⟩ : ∃ u, Hid (flipV 0 a = u) := ⟨_, rfl⟩
  have u1 : u < 256 := by rw [← hu.out]; exact flipV_lt _ _ ha
  obtain ⟨j, hj⟩ : ∃ j, Hid (flipF 0 a f = j) := ⟨_, rfl⟩
  have j1 : j < 256 := by rw [← hj.out]; exact flipF_lt _ _ _ f1
  have hx : Hid (flipV 0 u = a) := not_not8 a u ha hu.out
  obtain ⟨l, hl⟩ : ∃ l, Hid (flipF 0 u j = l) := ⟨_, rfl⟩
  go_enter Try.func7, Try.ntmps7
  go_wp2_with (first
    | (go_at_call 13; refine (sumsAlive_any _).mono ?_; rintro e w' ⟨rfl, rfl⟩)
    | (go_at_call 16; first | ((with_reducible refine (add_at a b k v f ha hb hv hf _).mono ?_); rintro e w' ⟨rfl, rfl⟩) | ((with_reducible refine (add_at b a k v f hb ha hv2 hf2 _).mono ?_); rintro e w' ⟨rfl, rfl⟩))
    | (go_at_call 11; refine (sub_at v b k a g v1 hb hr hg _).mono ?_; rintro e w' ⟨rfl, rfl⟩)
    | (go_at_call 29; refine (inc_at a f s h ha f1 hs hh _).mono ?_; rintro e w' ⟨rfl, rfl⟩)
    | (go_at_call 31; refine (dec_at s f a i s1 f1 ht hi _).mono ?_; rintro e w' ⟨rfl, rfl⟩)
    | (go_at_call 35; first | ((with_reducible refine (flip_at 0 a f u j ha f1 hu hj _).mono ?_); rintro e w' ⟨rfl, rfl⟩) | ((with_reducible refine (flip_at 0 u j a l u1 j1 hx hl _).mono ?_); rintro e w' ⟨rfl, rfl⟩)))
  go_ret
  exact ⟨rfl, Below.refl _ _⟩

end Go.Proofs.Ythjjdpelddboeaa
