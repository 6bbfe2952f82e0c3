/-
  The law PairsNames and pairsAlive return true, and write nothing.
-/
import Derived.Test.YtogohngbafnokaaPairCode
namespace Go.Proofs.Ytogohngbafnokaa
open Go.RowKit

theorem pairsAlive_any (w : World) : Calls Try.prog 10 #[] w fun e w' => e = .returned (.bool true) ∧ w = w' := by
  go_enter Try.func10, Try.ntmps10
  go_wp2_with (first
    | (go_at_call 11; refine (add_at 4095 1 0 4096 16 (by omega) (by omega) (by omega) (Lib.hid (by decide +kernel)) (Lib.hid (by decide +kernel)) _).mono ?_; rintro e w' ⟨rfl, rfl⟩)
    | (go_at_call 16; refine (join_at 1 2 258 (by omega) (by omega) (Lib.hid (by decide +kernel)) _).mono ?_; rintro e w' ⟨rfl, rfl⟩)
    | (go_at_call 18; refine (move_at 5 255 4 (by omega) (by omega) (Lib.hid (by decide +kernel)) _).mono ?_; rintro e w' ⟨rfl, rfl⟩))
  go_ret
  exact ⟨rfl, rfl⟩

theorem sbc_one (w : World) : Calls Try.prog 9 #[.int .u16 0, .int .u16 0, .int .u8 1] w fun e w' => e = .returned (.tuple #[.int .u16 65535, .int .u8 187]) ∧ w = w' :=
  sbc_at 0 0 1 1 65535 187 (by omega) (by omega) (by omega) (Lib.hid (by decide +kernel)) (Lib.hid (by decide +kernel)) (Lib.hid (by decide +kernel)) _
theorem sbc_two (w : World) : Calls Try.prog 9 #[.int .u16 5, .int .u16 5, .int .u8 0] w fun e w' => e = .returned (.tuple #[.int .u16 0, .int .u8 66]) ∧ w = w' :=
  sbc_at 5 5 0 0 0 66 (by omega) (by omega) (by omega) (Lib.hid (by decide +kernel)) (Lib.hid (by decide +kernel)) (Lib.hid (by decide +kernel)) _

theorem names_any (w : World) : Calls Try.prog 3 #[] w fun e w' => e = .returned (.bool true) ∧ Below w.heap.size w w' := by
  go_enter Try.func3, Try.ntmps3
  go_wp2_with (first
    | (go_at_call 10; refine (pairsAlive_any _).mono ?_; rintro e w' ⟨rfl, rfl⟩)
    | (go_at_call 8; refine (adc_at 32767 0 1 1 32768 148 (by omega) (by omega) (by omega) (Lib.hid (by decide +kernel)) (Lib.hid (by decide +kernel)) (Lib.hid (by decide +kernel)) _).mono ?_; rintro e w' ⟨rfl, rfl⟩)
    | (go_at_call 9; first | ((with_reducible refine (sbc_one _).mono ?_); rintro e w' ⟨rfl, rfl⟩) | ((with_reducible refine (sbc_two _).mono ?_); rintro e w' ⟨rfl, rfl⟩)))
  go_ret
  exact ⟨rfl, Below.refl _ _⟩

end Go.Proofs.Ytogohngbafnokaa
