/-
  The law SumsNames and sumsAlive return true, and write nothing.
-/
import Derived.Test.YthjjdpelddboeaaSumCode2
import Derived.Test.YthjjdpelddboeaaSumRef
namespace Go.Proofs.Ythjjdpelddboeaa
open Go.RowKit

theorem sumsAlive_any (w : World) : Calls Try.prog 13 #[] w fun e w' => e = .returned (.bool true) ∧ w = w' := by
  go_enter Try.func13, Try.ntmps13
  go_wp2_with (first
    | (go_at_call 16; refine (add_at 127 1 false 128 148 (by omega) (by omega) (Lib.hid (by decide +kernel)) (Lib.hid (by decide +kernel)) _).mono ?_; rintro e w' ⟨rfl, rfl⟩))
  go_ret
  exact ⟨rfl, rfl⟩

theorem names_any (w : World) : Calls Try.prog 3 #[] w fun e w' => e = .returned (.bool true) ∧ Below w.heap.size w w' := by
  go_enter Try.func3, Try.ntmps3
  go_wp2_with (first
    | (go_at_call 13; refine (sumsAlive_any _).mono ?_; rintro e w' ⟨rfl, rfl⟩)
    | (go_at_call 11; refine (sub_at 0 1 false 255 187 (by omega) (by omega) (Lib.hid (by decide +kernel)) (Lib.hid (by decide +kernel)) _).mono ?_; rintro e w' ⟨rfl, rfl⟩)
    | (go_at_call 12; refine (and_at 240 15 0 84 (by omega) (by omega) (Lib.hid (by decide +kernel)) (Lib.hid (by decide +kernel)) _).mono ?_; rintro e w' ⟨rfl, rfl⟩)
    | (go_at_call 14; refine (compare_at 0 40 187 (by omega) (by omega) (Lib.hid (by decide +kernel)) _).mono ?_; rintro e w' ⟨rfl, rfl⟩)
    | (go_at_call 15; refine (shape_at 0 64 (by omega) (Lib.hid (by decide +kernel)) _).mono ?_; rintro e w' ⟨rfl, rfl⟩))
  go_ret
  exact ⟨rfl, Below.refl _ _⟩

end Go.Proofs.Ythjjdpelddboeaa
