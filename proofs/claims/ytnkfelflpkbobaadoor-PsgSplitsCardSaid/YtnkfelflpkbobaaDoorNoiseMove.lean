/-
  Package noise's Move, by one contract: the row, one place on. For each row of sixteen bits.
-/
import Derived.Test.YtnkfelflpkbobaaDoorNoiseMath
namespace Go.Proofs.YtnkfelflpkbobaaDoor
open Go.RowKit


set_option maxHeartbeats 800000 in
theorem move_any (x : Int) (wh : Bool) (h0 : 0 ≤ x) (h1 : x < 65536) (w : World) :
    Calls Tryd.prog 40 #[.int .u16 x, .bool wh] w fun e w' => e = .returned (.int .u16 (moveOf x wh)) ∧ w = w' := by
  have b15 := bit15 (x / 2) (by omega) (by omega)
  by_cases h2 : x % 2 = 1
  all_goals
    by_cases h8 : x / 8 % 2 = 1
    all_goals
      first
        | (have b0 : bits .and .u16 x 1 = 1 := by rw [bit0 x h0 h1]; omega)
        | (have b0 : bits .and .u16 x 1 = 0 := by rw [bit0 x h0 h1]; omega)
      first
        | (have b3 : bits .and .u16 x 8 = 8 := by rw [bit3 x h0 h1]; omega)
        | (have b3 : bits .and .u16 x 8 = 0 := by rw [bit3 x h0 h1]; omega)
      cases wh
      all_goals
        have H2 := Lib.hid h2
        have H8 := Lib.hid h8
        go_enter Tryd.func40, Tryd.ntmps40
        go_wp2
        go_ret
        exact ⟨ret_u16 (by unfold moveOf topOf; simp [H2.out, H8.out]), rfl⟩

theorem move_at (x : Int) (wh : Bool) (y : Int) (h0 : 0 ≤ x) (h1 : x < 65536) (h : Hid (moveOf x wh = y)) (w : World) :
    Calls Tryd.prog 40 #[.int .u16 x, .bool wh] w fun e w' => e = .returned (.int .u16 y) ∧ w = w' := by
  rw [← h.out]; exact move_any x wh h0 h1 w

end Go.Proofs.YtnkfelflpkbobaaDoor
