/-
  The law TurnsRot returns true for any op, any byte and any flags, and writes nothing that was there.
-/
import Derived.Test.YtgkfipiefadaaaaTurnNames
import Derived.Test.YtgkfipiefadaaaaTurnRef
namespace Go.Proofs.Ytgkfipiefadaaaa
open Go.RowKit

set_option maxHeartbeats 1600000 in
theorem rotlaw_any (op : Int) (k j v f : Nat) (hk : op % 8 = (k : Int)) (hj : op % 4 = (j : Int)) (hv : v < 256) (hf : f < 256) (w : World) :
    Calls Try.prog 4 #[.int .i64 op, .int .u8 (v : Int), .int .u8 (f : Int)] w fun e w' => e = .returned (.bool true) ∧ Below w.heap.size w w' := by
  have HM := Lib.hid (Own.start w)
  obtain ⟨c, hc⟩ : ∃ c, Hid (f % 2 = c) := ⟨_, rfl⟩
  obtain ⟨r, hr⟩ : ∃ r, Hid (tV k v c = r) := ⟨_, rfl⟩
  obtain ⟨g, hg⟩ : ∃ g, Hid (tRotF k v c = g) := ⟨_, rfl⟩
  obtain ⟨s, hs⟩ : ∃ s, Hid (tV j v c = s) := ⟨_, rfl⟩
  obtain ⟨h, hh⟩ : ∃ h, Hid (tQuickF j v c f = h) := ⟨_, rfl⟩
  have HK := Lib.hid hk
  have HJ := Lib.hid hj
  clear hk hj
  go_enter Try.func4, Try.ntmps4
  go_wp2_with (first
    | (go_at_call 11; refine (turnsAlive_any _).mono ?_; rintro e w' ⟨rfl, rfl⟩)
    | (go_at_call 13; (with_reducible refine (rot_at op k v f c r g HK.out hv hf hc hr hg _).mono ?_); rintro e w' ⟨rfl, rfl⟩)
    | (go_at_call 14; (with_reducible refine (rrot_at op k v f c r g HK.out hv hf hc hr hg _).mono ?_); rintro e w' ⟨rfl, hbl⟩; have HM' := Lib.hid (HM.out.call hbl); clear HM hbl; have HM := HM'; clear HM')
    | (go_at_call 9; (with_reducible refine (quick_at op j v f c s h HJ.out hv hf hc hs hh _).mono ?_); rintro e w' ⟨rfl, rfl⟩)
    | (go_at_call 15; (with_reducible refine (rquick_at op j v f c s h HJ.out hv hf hc hs hh _).mono ?_); rintro e w' ⟨rfl, hbl⟩; have HM' := Lib.hid (HM.out.call hbl); clear HM hbl; have HM := HM'; clear HM'))
  go_ret
  exact ⟨rfl, Own.fin HM⟩

end Go.Proofs.Ytgkfipiefadaaaa
