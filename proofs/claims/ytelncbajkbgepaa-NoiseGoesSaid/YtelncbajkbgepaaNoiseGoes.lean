/-
  The law NoiseGoes returns true for any two rows, and leaves memory as it is.
-/
import Derived.Test.YtelncbajkbgepaaNoisePeriod
namespace Go.Proofs.Ytelncbajkbgepaa
open Go.RowKit

set_option maxHeartbeats 800000 in
theorem goes_any (a b : Int) (wh : Bool) (a0 : 0 ≤ a) (a1 : a < 65536) (b0 : 0 ≤ b) (b1 : b < 65536) (w : World) :
    Calls Try.prog 6 #[.int .u16 a, .int .u16 b, .bool wh] w fun e w' => e = .returned (.bool true) ∧ w = w' := by
  obtain ⟨A, hA⟩ : ∃ A, A = moveOf a wh := ⟨_, rfl⟩
  obtain ⟨B, hB⟩ : ∃ B, B = moveOf b wh := ⟨_, rfl⟩
  have e1 : (A == B) = (a == b) := by
    rw [Bool.eq_iff_iff, beq_iff_eq, beq_iff_eq, hA, hB]
    exact ⟨moveOf_inj a b wh a0 a1 b0 b1, fun h => by rw [h]⟩
  have e2 : (A == 0) = (a == 0) := by
    rw [Bool.eq_iff_iff, beq_iff_eq, beq_iff_eq, hA]
    exact moveOf_zero a wh a0 a1
  have HA : Hid (moveOf a wh = A) := hA.symm
  have HB : Hid (moveOf b wh = B) := hB.symm
  clear hA hB
  obtain ⟨p, hp⟩ : ∃ p, p = (a == b) := ⟨_, rfl⟩
  obtain ⟨q, hq⟩ : ∃ q, q = (a == 0) := ⟨_, rfl⟩
  rw [← hp] at e1
  rw [← hq] at e2
  have e3 := hp.symm
  have e4 := hq.symm
  clear hp hq
  have tok : Hid True := trivial
  cases p
  all_goals
    cases q
    all_goals
      go_enter Try.func6, Try.ntmps6
      go_wp2_with (first
        | (go_at_call 9; refine (noiseAlive_any _).mono ?_; rintro e w' ⟨rfl, rfl⟩)
        | (go_at_call 16; have t := tok; refine (move_at a wh A a0 a1 HA _).mono ?_; rintro e w' ⟨rfl, rfl⟩; clear t tok)
        | (go_at_call 16; refine (move_at b wh B b0 b1 HB _).mono ?_; rintro e w' ⟨rfl, rfl⟩))
      go_ret
      exact ⟨rfl, rfl⟩

end Go.Proofs.Ytelncbajkbgepaa
