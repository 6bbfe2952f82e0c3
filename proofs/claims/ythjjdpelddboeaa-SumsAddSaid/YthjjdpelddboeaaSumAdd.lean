/-
  The law SumsAdd returns true for any two bytes and any carry, and writes nothing that was there.
-/
import Derived.Test.YthjjdpelddboeaaSumNames
import Derived.Test.YthjjdpelddboeaaSumRefMore
namespace Go.Proofs.Ythjjdpelddboeaa
open Go.RowKit

set_option maxHeartbeats 1600000 in
theorem addlaw_any (a b : Nat) (k : Bool) (ha : a < 256) (hb : b < 256) (w : World) :
    Calls Try.prog 4 #[.int .u8 (a : Int), .int .u8 (b : Int), .bool k] w fun e w' => e = .returned (.bool true) ∧ Below w.heap.size w w' := by
  have HM := Lib.hid (Own.start w)
  obtain ⟨v, hv⟩ : ∃ v, Hid (nAddV a b k.toNat = v) := ⟨_, rfl⟩
  obtain ⟨f, hf⟩ : ∃ f, Hid (nAddF a b k.toNat = f) := ⟨_, rfl⟩
  obtain ⟨u, hu⟩ : ∃ u, Hid (nSubV a b k.toNat = u) := ⟨_, rfl⟩
  obtain ⟨g, hg⟩ : ∃ g, Hid (nSubF a b k.toNat = g) := ⟨_, rfl⟩
  obtain ⟨p, hp⟩ : ∃ p, Hid (nPar a = p) := ⟨_, rfl⟩
  obtain ⟨s, z, y, x, hs⟩ : ∃ s z y x, Hid (nS a = s ∧ nZ a = z ∧ nBit 32 a = y ∧ nBit 8 a = x) := ⟨_, _, _, _, rfl, rfl, rfl, rfl⟩
  obtain ⟨l, hl⟩ : ∃ l, Hid (nShape a = l) := ⟨_, rfl⟩
  have HL : Hid (nByte s z y false x false false false = l) := by
    obtain ⟨rfl, rfl, rfl, rfl⟩ := hs.out
    exact hl
  go_enter Try.func4, Try.ntmps4
  go_wp2_with (first
    | (go_at_call 13; refine (sumsAlive_any _).mono ?_; rintro e w' ⟨rfl, rfl⟩)
    | (go_at_call 16; refine (add_at a b k v f ha hb hv hf _).mono ?_; rintro e w' ⟨rfl, rfl⟩)
    | (go_at_call 17; refine (radd_at a b k v f ha hb hv hf _).mono ?_; rintro e w' ⟨rfl, hbl⟩; have HM' := Lib.hid (HM.out.call hbl); clear HM hbl; have HM := HM'; clear HM')
    | (go_at_call 11; refine (sub_at a b k u g ha hb hu hg _).mono ?_; rintro e w' ⟨rfl, rfl⟩)
    | (go_at_call 18; refine (rsub_at a b k u g ha hb hu hg _).mono ?_; rintro e w' ⟨rfl, hbl⟩; have HM' := Lib.hid (HM.out.call hbl); clear HM hbl; have HM := HM'; clear HM')
    | (go_at_call 19; refine (parity_at a p ha hp _).mono ?_; rintro e w' ⟨rfl, rfl⟩)
    | (go_at_call 20; refine (rparity_at a p ha hp _).mono ?_; rintro e w' ⟨rfl, rfl⟩)
    | (go_at_call 15; refine (shape_at a l ha hl _).mono ?_; rintro e w' ⟨rfl, rfl⟩)
    | (go_at_call 22; refine (rshape_at a s z y x ha hs _).mono ?_; rintro e w' ⟨rfl, hbl⟩; have HM' := Lib.hid (HM.out.call hbl); clear HM hbl; have HM := HM'; clear HM')
    | (go_at_call 21; refine (byte_at s z y false x false false false l HL _).mono ?_; rintro e w' ⟨rfl, hbl⟩; have HM' := Lib.hid (HM.out.call hbl); clear HM hbl; have HM := HM'; clear HM'))
  go_ret
  exact ⟨rfl, Own.fin HM⟩

end Go.Proofs.Ythjjdpelddboeaa
