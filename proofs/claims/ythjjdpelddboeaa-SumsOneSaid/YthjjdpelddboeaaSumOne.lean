/-
  The law SumsOne returns true for any op, byte and flags, and writes nothing that was there.
-/
import Derived.Test.YthjjdpelddboeaaSumNames
import Derived.Test.YthjjdpelddboeaaSumCode4
import Derived.Test.YthjjdpelddboeaaSumRefDaa
import Derived.Test.YthjjdpelddboeaaSumRefFlip
namespace Go.Proofs.Ythjjdpelddboeaa
open Go.RowKit

set_option maxHeartbeats 1600000 in
theorem onelaw_any (op : Int) (a f : Nat) (ha : a < 256) (hf : f < 256) (w : World) :
    Calls Try.prog 6 #[.int .i64 op, .int .u8 (a : Int), .int .u8 (f : Int)] w fun e w' => e = .returned (.bool true) ∧ Below w.heap.size w w' := by
  have HM := Lib.hid (Own.start w)
  obtain ⟨s, hs⟩ : ∃ s, Hid (nAddV a 1 0 = s) := ⟨_, rfl⟩
  obtain ⟨h, hh⟩ : ∃ h, Hid (nKeep (nAddF a 1 0) f = h) := ⟨_, rfl⟩
  obtain ⟨t, ht⟩ : ∃ t, Hid (nSubV a 1 0 = t) := ⟨_, rfl⟩
  obtain ⟨i, hi⟩ : ∃ i, Hid (nKeep (nSubF a 1 0) f = i) := ⟨_, rfl⟩
  obtain ⟨d, hd⟩ : ∃ d, Hid (nDaaV a f = d) := ⟨_, rfl⟩
  obtain ⟨l, hl⟩ : ∃ l, Hid (nDaaF a f = l) := ⟨_, rfl⟩
  obtain ⟨u, hu⟩ : ∃ u, Hid (flipV op a = u) := ⟨_, rfl⟩
  obtain ⟨j, hj⟩ : ∃ j, Hid (flipF op a f = j) := ⟨_, rfl⟩
  go_enter Try.func6, Try.ntmps6
  go_wp2_with (first
    | (go_at_call 13; refine (sumsAlive_any _).mono ?_; rintro e w' ⟨rfl, rfl⟩)
    | (go_at_call 29; refine (inc_at a f s h ha hf hs hh _).mono ?_; rintro e w' ⟨rfl, rfl⟩)
    | (go_at_call 30; refine (rinc_at a f s h ha hf hs hh _).mono ?_; rintro e w' ⟨rfl, hbl⟩; have HM' := Lib.hid (HM.out.call hbl); clear HM hbl; have HM := HM'; clear HM')
    | (go_at_call 31; refine (dec_at a f t i ha hf ht hi _).mono ?_; rintro e w' ⟨rfl, rfl⟩)
    | (go_at_call 32; refine (rdec_at a f t i ha hf ht hi _).mono ?_; rintro e w' ⟨rfl, hbl⟩; have HM' := Lib.hid (HM.out.call hbl); clear HM hbl; have HM := HM'; clear HM')
    | (go_at_call 33; refine (daa_at a f d l ha hf hd hl _).mono ?_; rintro e w' ⟨rfl, rfl⟩)
    | (go_at_call 34; refine (rdaa_at a f d l ha hf hd hl _).mono ?_; rintro e w' ⟨rfl, hbl⟩; have HM' := Lib.hid (HM.out.call hbl); clear HM hbl; have HM := HM'; clear HM')
    | (go_at_call 35; refine (flip_at op a f u j ha hf hu hj _).mono ?_; rintro e w' ⟨rfl, rfl⟩)
    | (go_at_call 36; refine (rflip_at op a f u j ha hf hu hj _).mono ?_; rintro e w' ⟨rfl, hbl⟩; have HM' := Lib.hid (HM.out.call hbl); clear HM hbl; have HM := HM'; clear HM'))
  go_ret
  exact ⟨rfl, Own.fin HM⟩

end Go.Proofs.Ythjjdpelddboeaa
