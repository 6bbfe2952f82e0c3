/-
  The law PairsRuns returns true for any two numbers and any flags, and writes nothing that was there.
-/
import Derived.Test.YtogohngbafnokaaPairNames
import Derived.Test.YtogohngbafnokaaPairRefMore
namespace Go.Proofs.Ytogohngbafnokaa
open Go.RowKit

set_option maxHeartbeats 1600000 in
theorem runs_any (a b f : Nat) (ha : a < 65536) (hb : b < 65536) (hf : f < 256) (w : World) :
    Calls Try.prog 4 #[.int .u16 (a : Int), .int .u16 (b : Int), .int .u8 (f : Int)] w fun e w' => e = .returned (.bool true) ∧ Below w.heap.size w w' := by
  have HM := Lib.hid (Own.start w)
  obtain ⟨k, hk⟩ : ∃ k, Hid (f % 2 = k) := ⟨_, rfl⟩
  obtain ⟨v, hv⟩ : ∃ v, Hid (wAddV a b 0 = v) := ⟨_, rfl⟩
  obtain ⟨g, hg⟩ : ∃ g, Hid (wAddF a b f = g) := ⟨_, rfl⟩
  obtain ⟨u, hu⟩ : ∃ u, Hid (wAddV a b k = u) := ⟨_, rfl⟩
  obtain ⟨h, hh⟩ : ∃ h, Hid (wAdcF a b k = h) := ⟨_, rfl⟩
  obtain ⟨t, ht⟩ : ∃ t, Hid (wSubV a b k = t) := ⟨_, rfl⟩
  obtain ⟨i, hi⟩ : ∃ i, Hid (wSbcF a b k = i) := ⟨_, rfl⟩
  go_enter Try.func4, Try.ntmps4
  go_wp2_with (first
    | (go_at_call 10; refine (pairsAlive_any _).mono ?_; rintro e w' ⟨rfl, rfl⟩)
    | (go_at_call 11; (with_reducible refine (add_at a b f v g ha hb hf hv hg _).mono ?_); rintro e w' ⟨rfl, rfl⟩)
    | (go_at_call 12; (with_reducible refine (wradd_at a b f v g ha hb hf hv hg _).mono ?_); rintro e w' ⟨rfl, hbl⟩; have HM' := Lib.hid (HM.out.call hbl); clear HM hbl; have HM := HM'; clear HM')
    | (go_at_call 8; (with_reducible refine (adc_at a b f k u h ha hb hf hk hu hh _).mono ?_); rintro e w' ⟨rfl, rfl⟩)
    | (go_at_call 13; (with_reducible refine (wradc_at a b f k u h ha hb hf hk hu hh _).mono ?_); rintro e w' ⟨rfl, hbl⟩; have HM' := Lib.hid (HM.out.call hbl); clear HM hbl; have HM := HM'; clear HM')
    | (go_at_call 9; (with_reducible refine (sbc_at a b f k t i ha hb hf hk ht hi _).mono ?_); rintro e w' ⟨rfl, rfl⟩)
    | (go_at_call 14; (with_reducible refine (wrsbc_at a b f k t i ha hb hf hk ht hi _).mono ?_); rintro e w' ⟨rfl, hbl⟩; have HM' := Lib.hid (HM.out.call hbl); clear HM hbl; have HM := HM'; clear HM'))
  go_ret
  exact ⟨rfl, Own.fin HM⟩

end Go.Proofs.Ytogohngbafnokaa
