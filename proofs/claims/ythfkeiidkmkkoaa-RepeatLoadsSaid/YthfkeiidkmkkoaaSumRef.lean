/-
  The document's one and signed, each by one contract.
-/
import Derived.Test.YthfkeiidkmkkoaaSumRefS
namespace Go.Proofs.Ythfkeiidkmkkoaa
open Go.RowKit

theorem one_at (c : Bool) (w : World) : Calls Try.prog 29 #[.bool c] w fun e w' => e = .returned (.int .i64 ((c.toNat : Nat) : Int)) ∧ w = w' := by
  cases c
  all_goals
    go_enter Try.func29, Try.ntmps29
    go_wp2
    go_ret
    exact ⟨rfl, rfl⟩
/-- a byte as a number from -128 to 127 -/
def signedOf (v : Nat) : Int := if 128 ≤ v then (v : Int) - 256 else v
theorem signed_at (v : Nat) (h : v < 256) (r : Int) (hr : Hid (signedOf v = r)) (w : World) : Calls Try.prog 30 #[.int .u8 (v : Int)] w fun e w' => e = .returned (.int .i64 r) ∧ w = w' := by
  by_cases hv : (128 : Int) ≤ (v : Int)
  · have e : (v : Int) - 256 = r := by rw [← hr.out]; unfold signedOf; rw [if_pos (by omega)]
    have HE := Lib.hid e
    clear e
    go_enter Try.func30, Try.ntmps30
    go_wp2
    go_ret
    exact ⟨by rw [← HE.out]; rfl, rfl⟩
  · have e : (v : Int) = r := by rw [← hr.out]; unfold signedOf; rw [if_neg (by omega)]
    subst e
    go_enter Try.func30, Try.ntmps30
    go_wp2
    go_ret
    exact ⟨rfl, rfl⟩

end Go.Proofs.Ythfkeiidkmkkoaa
