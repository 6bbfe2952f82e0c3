/-
  The document's lists of names, each by one contract.
-/
import Derived.Test.YtaiceidmcelapaaDoorNamSplit
import Derived.Deep.RegionHeld3
set_option linter.unusedSimpArgs false
set_option linter.unusedVariables false
namespace Go.Proofs.YtaiceidmcelapaaDoor
open Go.RowKit

set_option maxRecDepth 100000 in
set_option maxHeartbeats 3200000 in
theorem ones_in (w : World) : Calls Tryd.prog 24 #[] w fun e w' => ∃ v, e = .returned v ∧ TextsIn w' v (rSplit x_ones 124) ∧ Below w.heap.size w w' := by
  have HC : Hid (∀ w, Calls Tryd.prog 45 #[.string ⟨x_ones.toArray⟩, .int .u8 124] w fun e w' => ∃ v, e = .returned v ∧ TextsIn w' v (rSplit x_ones 124) ∧ Below w.heap.size w w') := rsplit_at x_ones 124 124 rfl (by decide)
  obtain ⟨L, hL⟩ : ∃ L, rSplit x_ones 124 = L := ⟨_, rfl⟩
  rw [hL] at HC ⊢
  clear hL
  go_enter Tryd.func24, Tryd.ntmps24
  go_wp2_with (first
    | (go_at_call 45; refine (HC.out _).mono ?_; rintro e w' ⟨v, rfl, ht, hb⟩; have HT := Lib.hid ht; have HB := Lib.hid hb; clear ht hb))
  go_ret
  exact ⟨_, rfl, HT.out, HB.out⟩
set_option maxRecDepth 100000 in
set_option maxHeartbeats 3200000 in
theorem first_in (w : World) : Calls Tryd.prog 44 #[] w fun e w' => ∃ v, e = .returned v ∧ TextsIn w' v (rSplit x_first 124) ∧ Below w.heap.size w w' := by
  have HC : Hid (∀ w, Calls Tryd.prog 45 #[.string ⟨x_first.toArray⟩, .int .u8 124] w fun e w' => ∃ v, e = .returned v ∧ TextsIn w' v (rSplit x_first 124) ∧ Below w.heap.size w w') := rsplit_at x_first 124 124 rfl (by decide)
  obtain ⟨L, hL⟩ : ∃ L, rSplit x_first 124 = L := ⟨_, rfl⟩
  rw [hL] at HC ⊢
  clear hL
  go_enter Tryd.func44, Tryd.ntmps44
  go_wp2_with (first
    | (go_at_call 45; refine (HC.out _).mono ?_; rintro e w' ⟨v, rfl, ht, hb⟩; have HT := Lib.hid ht; have HB := Lib.hid hb; clear ht hb))
  go_ret
  exact ⟨_, rfl, HT.out, HB.out⟩
set_option maxRecDepth 100000 in
set_option maxHeartbeats 3200000 in
theorem last_in (w : World) : Calls Tryd.prog 46 #[] w fun e w' => ∃ v, e = .returned v ∧ TextsIn w' v (rSplit x_last 124) ∧ Below w.heap.size w w' := by
  have HC : Hid (∀ w, Calls Tryd.prog 45 #[.string ⟨x_last.toArray⟩, .int .u8 124] w fun e w' => ∃ v, e = .returned v ∧ TextsIn w' v (rSplit x_last 124) ∧ Below w.heap.size w w') := rsplit_at x_last 124 124 rfl (by decide)
  obtain ⟨L, hL⟩ : ∃ L, rSplit x_last 124 = L := ⟨_, rfl⟩
  rw [hL] at HC ⊢
  clear hL
  go_enter Tryd.func46, Tryd.ntmps46
  go_wp2_with (first
    | (go_at_call 45; refine (HC.out _).mono ?_; rintro e w' ⟨v, rfl, ht, hb⟩; have HT := Lib.hid ht; have HB := Lib.hid hb; clear ht hb))
  go_ret
  exact ⟨_, rfl, HT.out, HB.out⟩
set_option maxRecDepth 100000 in
set_option maxHeartbeats 3200000 in
theorem ext_in (w : World) : Calls Tryd.prog 47 #[] w fun e w' => ∃ v, e = .returned v ∧ TextsIn w' v (rSplit x_extended 124) ∧ Below w.heap.size w w' := by
  have HC : Hid (∀ w, Calls Tryd.prog 45 #[.string ⟨x_extended.toArray⟩, .int .u8 124] w fun e w' => ∃ v, e = .returned v ∧ TextsIn w' v (rSplit x_extended 124) ∧ Below w.heap.size w w') := rsplit_at x_extended 124 124 rfl (by decide)
  obtain ⟨L, hL⟩ : ∃ L, rSplit x_extended 124 = L := ⟨_, rfl⟩
  rw [hL] at HC ⊢
  clear hL
  go_enter Tryd.func47, Tryd.ntmps47
  go_wp2_with (first
    | (go_at_call 45; refine (HC.out _).mono ?_; rintro e w' ⟨v, rfl, ht, hb⟩; have HT := Lib.hid ht; have HB := Lib.hid hb; clear ht hb))
  go_ret
  exact ⟨_, rfl, HT.out, HB.out⟩
end Go.Proofs.YtaiceidmcelapaaDoor
