/-
  Package pairs' functions that part a number and join it, each by one contract.
-/
import Derived.Test.YthehpkhhoimecaaDoorPairSpec
import Derived.Lib.Hide
namespace Go.Proofs.YthehpkhhoimecaaDoor
open Go.RowKit

theorem ret_wide {a b : Int} {v f : Nat} (h : a = (v : Int)) (h' : b = (f : Int)) : (Ending.returned (.tuple #[.int .u16 a, .int .u8 b]) : Ending) = .returned (.tuple #[.int .u16 (v : Int), .int .u8 (f : Int)]) := by rw [h, h']
theorem ret_two {a b : Int} {v f : Nat} (h : a = (v : Int)) (h' : b = (f : Int)) : (Ending.returned (.tuple #[.int .u8 a, .int .u8 b]) : Ending) = .returned (.tuple #[.int .u8 (v : Int), .int .u8 (f : Int)]) := by rw [h, h']
theorem ret_byte {a : Int} {v : Nat} (h : a = (v : Int)) : (Ending.returned (.int .u8 a) : Ending) = .returned (.int .u8 (v : Int)) := by rw [h]
theorem ret_word {a : Int} {v : Nat} (h : a = (v : Int)) : (Ending.returned (.int .u16 a) : Ending) = .returned (.int .u16 (v : Int)) := by rw [h]

theorem high_at (v r : Nat) (hv : v < 65536) (hr : Hid (wHigh v = r)) (w : World) : Calls Tryd.prog 24 #[.int .u16 (v : Int)] w fun e w' => e = .returned (.int .u8 (r : Int)) ∧ w = w' := by
  go_enter Tryd.func24, Tryd.ntmps24
  go_wp2
  go_ret
  refine ⟨ret_byte ?_, rfl⟩
  have h : v / 256 = r := hr.out
  omega

theorem split_at (v h l : Nat) (hv : v < 65536) (hh : Hid (wHigh v = h)) (hl : Hid (v % 256 = l)) (w : World) :
    Calls Tryd.prog 20 #[.int .u16 (v : Int)] w fun e w' => e = .returned (.tuple #[.int .u8 (h : Int), .int .u8 (l : Int)]) ∧ w = w' := by
  have e : (v : Int) % 256 = (l : Int) := by have := hl.out; omega
  go_enter Tryd.func20, Tryd.ntmps20
  go_wp2_with (go_at_call 24; (with_reducible refine (high_at v h hv hh _).mono ?_); rintro e w' ⟨rfl, rfl⟩)
  go_ret2
  exact ⟨ret_two rfl e, rfl⟩

theorem join_at (h l v : Nat) (hh : h < 256) (hl : l < 256) (hv : Hid (h * 256 + l = v)) (w : World) :
    Calls Tryd.prog 21 #[.int .u8 (h : Int), .int .u8 (l : Int)] w fun e w' => e = .returned (.int .u16 (v : Int)) ∧ w = w' := by
  have e : bits .or .u16 ((h : Int) * 256) (l : Int) = (v : Int) := by
    rw [show ((h : Int) * 256) = ((h * 256 : Nat) : Int) by omega, u16_or_nat _ _ (by omega) (by omega), nat_join 8 _ _ (by omega) (by omega), hv.out]
  go_enter Tryd.func21, Tryd.ntmps21
  go_wp2
  go_ret
  exact ⟨rfl, rfl⟩

end Go.Proofs.YthehpkhhoimecaaDoor
