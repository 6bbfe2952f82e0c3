/-
  The law TurnsNames and turnsAlive return true, and write nothing.
-/
import Derived.Test.YtgkfipiefadaaaaTurnCodeD
namespace Go.Proofs.Ytgkfipiefadaaaa
open Go.RowKit

theorem turnsAlive_any (w : World) : Calls Try.prog 11 #[] w fun e w' => e = .returned (.bool true) ∧ w = w' := by
  go_enter Try.func11, Try.ntmps11
  go_wp2_with (first
    | (go_at_call 13; refine (rot_at 0 0 129 0 0 3 5 (by decide) (by omega) (by omega) (Lib.hid (by decide +kernel)) (Lib.hid (by decide +kernel)) (Lib.hid (by decide +kernel)) _).mono ?_; rintro e w' ⟨rfl, rfl⟩)
    | (go_at_call 17; refine (put_at 7 7 0 128 true (by decide) (by omega) (Lib.hid (by decide +kernel)) _).mono ?_; rintro e w' ⟨rfl, rfl⟩)
    | (go_at_call 12; refine (bit_at 0 0 0 0 0 84 (by decide) (by omega) (by omega) (by omega) (Lib.hid (by decide +kernel)) _).mono ?_; rintro e w' ⟨rfl, rfl⟩))
  go_ret
  exact ⟨rfl, rfl⟩

theorem dig_one (w : World) : Calls Try.prog 10 #[.bool true, .int .u8 18, .int .u8 52, .int .u8 1] w fun e w' => e = .returned (.tuple #[.int .u8 19, .int .u8 66, .int .u8 1]) ∧ w = w' :=
  digits_at true 18 52 1 19 66 1 (by omega) (by omega) (by omega) (Lib.hid (by decide +kernel)) (Lib.hid (by decide +kernel)) (Lib.hid (by decide +kernel)) _
theorem dig_two (w : World) : Calls Try.prog 10 #[.bool false, .int .u8 18, .int .u8 52, .int .u8 0] w fun e w' => e = .returned (.tuple #[.int .u8 20, .int .u8 35, .int .u8 4]) ∧ w = w' :=
  digits_at false 18 52 0 20 35 4 (by omega) (by omega) (by omega) (Lib.hid (by decide +kernel)) (Lib.hid (by decide +kernel)) (Lib.hid (by decide +kernel)) _

theorem names_any (w : World) : Calls Try.prog 3 #[] w fun e w' => e = .returned (.bool true) ∧ Below w.heap.size w w' := by
  go_enter Try.func3, Try.ntmps3
  go_wp2_with (first
    | (go_at_call 11; refine (turnsAlive_any _).mono ?_; rintro e w' ⟨rfl, rfl⟩)
    | (go_at_call 9; refine (quick_at 1 1 1 255 1 128 197 (by decide) (by omega) (by omega) (Lib.hid (by decide +kernel)) (Lib.hid (by decide +kernel)) (Lib.hid (by decide +kernel)) _).mono ?_; rintro e w' ⟨rfl, rfl⟩)
    | (go_at_call 10; first | ((with_reducible refine (dig_one _).mono ?_); rintro e w' ⟨rfl, rfl⟩) | ((with_reducible refine (dig_two _).mono ?_); rintro e w' ⟨rfl, rfl⟩))
    | (go_at_call 12; refine (bit_at 7 7 128 1 255 185 (by decide) (by omega) (by omega) (by omega) (Lib.hid (by decide +kernel)) _).mono ?_; rintro e w' ⟨rfl, rfl⟩))
  go_ret
  exact ⟨rfl, Below.refl _ _⟩

end Go.Proofs.Ytgkfipiefadaaaa
